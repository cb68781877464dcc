package lex

import "strconv"

// mostRef is the greatest number that may stand behind a mark.
const mostRef = 9999

// Show gives n in decimal digits (P7.2).
func Show(n int64) string { return strconv.FormatInt(n, 10) }

// Num gives the number of which w is the Show (P7.2).
func Num(w string) (int64, bool) {
	n, err := strconv.ParseInt(w, 10, 64)
	// ParseInt also reads what is no Show: `+1`, `-0`, `01`.
	if err != nil || Show(n) != w {
		return 0, false
	}
	return n, true
}

// Ref gives the number from 0 to 9999 whose Show stands in w behind mark (P7.2).
func Ref(w string, mark byte) (int, bool) {
	if w == "" || w[0] != mark {
		return 0, false
	}
	n, is := Num(w[1:])
	if !is || n < 0 || n > mostRef {
		return 0, false
	}
	return int(n), true
}
