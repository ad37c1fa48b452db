package bound

import (
	"errors"

	"terrace/api"
	"terrace/big"
	"terrace/poly"
)

// refusal says what of the arguments may not be; the Errno that is told lies wrapped in it.
type refusal struct {
	what string
	why  api.Errno
}

func (r *refusal) Error() string { return "bound: " + r.what + ": " + r.why.Error() }
func (r *refusal) Unwrap() error { return r.why }

// asked tells the Errno that lies in err.
func asked(err error) api.Errno {
	for _, e := range [...]api.Errno{api.ErrPolyForm, api.ErrPolyZero, api.ErrBoundForm} {
		if errors.Is(err, e) {
			return e
		}
	}
	return api.OK
}

func check(p api.Poly) error {
	if e := poly.Check(p); e != api.OK {
		return &refusal{what: "no polynomial", why: e}
	}
	return nil
}

func checkMove(p api.Poly, c api.Int) error {
	if err := check(p); err != nil {
		return err
	}
	if big.Check(c) != api.OK {
		// The chapter tells both by one Errno: big's own is none of its errors.
		return &refusal{what: "no number", why: api.ErrPolyForm}
	}
	return nil
}

func checkStretch(p api.Poly, k int) error {
	if err := check(p); err != nil {
		return err
	}
	if k < -api.MaxExp || k > api.MaxExp {
		return &refusal{what: "no such power", why: api.ErrBoundForm}
	}
	return nil
}

func checkNotZero(p api.Poly) error {
	if err := check(p); err != nil {
		return err
	}
	if len(p) == 0 {
		return &refusal{what: "0 has no bound", why: api.ErrPolyZero}
	}
	return nil
}
