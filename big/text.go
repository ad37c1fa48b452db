package big

import (
	"strconv"
	"strings"

	"terrace/api"
)

// The greatest power of ten that is a limb, and how many noughts it has.
const (
	chunk       = 10000000000000000000
	chunkDigits = 19
)

func decimal(a api.Int) string {
	var out []byte
	if a.Neg {
		out = append(out, '-')
	}
	return string(appendDecimal(out, a.Mag, tensUpTo(a.Mag), false))
}

// tensUpTo tells 10^19, its square, that one's square, and on, as far as none is above x.
func tensUpTo(x api.Nat) []api.Nat {
	var tens []api.Nat
	for p := (api.Nat{chunk}); compare(p, x) <= 0; p = times(p, p) {
		tens = append(tens, p)
		if 2*len(p)-1 > len(x) {
			break
		}
	}
	return tens
}

// appendDecimal writes x, which is below the square of the last one of tens (of none: below 10^19), in two halves;
// full: with noughts ahead, as many digits as that bound has noughts.
func appendDecimal(out []byte, x api.Nat, tens []api.Nat, full bool) []byte {
	if len(tens) == 0 {
		return appendChunk(out, lowLimb(x), full)
	}
	last := len(tens) - 1
	upper, lower := divide(x, tens[last])
	if full || len(upper) > 0 {
		out = appendDecimal(out, upper, tens[:last], full)
		full = true
	}
	return appendDecimal(out, lower, tens[:last], full)
}

func appendChunk(out []byte, w uint64, full bool) []byte {
	s := strconv.FormatUint(w, 10)
	if full {
		out = append(out, strings.Repeat("0", chunkDigits-len(s))...)
	}
	return append(out, s...)
}

// readDecimal reads the magnitude of a decimal, whose sign may stand ahead of it, and tells whether it is one.
func readDecimal(s string) (api.Nat, bool) {
	digits := strings.TrimPrefix(s, "-")
	if digits == "" || len(digits) > api.MaxDigits {
		return nil, false
	}
	var m api.Nat
	word, unit := uint64(0), uint64(1)
	for i := range len(digits) {
		switch c := digits[i]; c {
		case '0':
			// A nought stands ahead only where it is all of the text: neither "01" nor "-0" is one.
			if i == 0 && len(s) > 1 {
				return nil, false
			}
			fallthrough
		case '1', '2', '3', '4', '5', '6', '7', '8', '9':
			word, unit = word*10+uint64(c-'0'), unit*10
		default:
			return nil, false
		}
		if unit == chunk || i == len(digits)-1 {
			m = plus(times(m, api.Nat{unit}), ofLimb(word))
			word, unit = 0, 1
		}
	}
	return m, true
}
