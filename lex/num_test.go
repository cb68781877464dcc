package lex

import (
	"math"
	"math/big"
	"regexp"
	"strconv"
	"strings"
	"testing"
)

// shown is a number and its Show.
type shown struct {
	n int64
	w string
}

// edges are 0, the ends of int64, and on both sides of 0 the first and the last number, and one between, of each count
// of digits.
func edges() []shown {
	list := []shown{
		{0, "0"}, {-1, "-1"}, {4096, "4096"}, {-77, "-77"},
		{math.MaxInt64, "9223372036854775807"}, {math.MaxInt64 - 1, "9223372036854775806"},
		{math.MinInt64, "-9223372036854775808"}, {math.MinInt64 + 1, "-9223372036854775807"},
		{math.MaxInt32, "2147483647"}, {math.MinInt32, "-2147483648"}, {math.MaxUint32, "4294967295"}, {math.MaxUint32 + 1, "4294967296"},
	}
	first, between := int64(1), int64(0)
	for digits := 1; digits <= 19; digits++ {
		w := "1" + strings.Repeat("0", digits-1)
		list = append(list, shown{first, w}, shown{-first, "-" + w})
		if digits <= 18 {
			between = between*10 + int64(digits%10)
			w := "1234567890123456789"[:digits]
			list = append(list, shown{between, w}, shown{-between, "-" + w})
			first *= 10
			w = strings.Repeat("9", digits)
			list = append(list, shown{first - 1, w}, shown{1 - first, "-" + w})
		}
	}
	return list
}

func wantNum(t *testing.T, w string, want int64, wantIs bool) {
	t.Helper()
	if n, is := Num(w); n != want || is != wantIs {
		t.Errorf("P7.2: Num of %q: %d, %v, not %d, %v", short(w), n, is, want, wantIs)
	}
}

func wantRef(t *testing.T, w string, mark byte, want int, wantIs bool) {
	t.Helper()
	if n, is := Ref(w, mark); n != want || is != wantIs {
		t.Errorf("P7.2: Ref of %q, by %q: %d, %v, not %d, %v", short(w), mark, n, is, want, wantIs)
	}
}

func TestShowAndNumOfEdges(t *testing.T) {
	for _, s := range edges() {
		if got := Show(s.n); got != s.w {
			t.Errorf("P7.2: Show of %d: %q, not %q", s.n, got, s.w)
		}
		wantNum(t, s.w, s.n, true)
	}
}

// TestWhatIsShownIsRead: P7.3.
func TestWhatIsShownIsRead(t *testing.T) {
	for n := int64(-12000); n <= 12000; n++ {
		w := Show(n)
		if want := strconv.FormatInt(n, 10); w != want {
			t.Errorf("P7.2: Show of %d: %q, not %q", n, w, want)
		}
		wantNum(t, w, n, true)
	}
	for bit := range 63 {
		for _, n := range []int64{1<<bit - 1, 1 << bit, 1<<bit + 1} {
			wantNum(t, Show(n), n, true)
			wantNum(t, Show(-n), -n, true)
		}
	}
}

func TestNumOfWhatIsNoShow(t *testing.T) {
	for _, w := range []string{
		"", "-", "--", "+", "-0", "+0", "00", "000", "01", "007", "-00", "-01", "+1", "+-1", "-+1", "--1", "---1",
		"9223372036854775808", "-9223372036854775809", "9223372036854775810", "9223372036854775900", "10000000000000000000",
		"-9223372036854775810", "-10000000000000000000", "18446744073709551615", "18446744073709551616", "18446744073709551617",
		"-18446744073709551616", "-18446744073709551617", "99999999999999999999", "340282366920938463463374607431768211456",
		"09223372036854775807", "-09223372036854775808", "00000000000000000000", "00000000000000000001",
		"1_000", "_1", "1_", "0_1", "0x1", "0X1", "0b1", "0o7", "1e3", "1E3", "1.0", "1.", ".1", "1,000", "a", "1a", "a1", "ff",
		" 1", "1 ", "1 2", "\t1", "1\n", "\n1", "1\r", "1\x00", "\x001", "1#", "%1", "^1", "1-", "1-1", "0-", "-1-",
		"inf", "nan", "NaN", "-inf", "١", "１", "-１", "−1", "1\xff", "\xff1",
		strings.Repeat("0", 1<<20), strings.Repeat("9", 1<<20), "-" + strings.Repeat("1", 1<<20), strings.Repeat("-", 1<<20),
	} {
		wantNum(t, w, 0, false)
	}
}

var isShow = regexp.MustCompile(`\A(0|-?[1-9][0-9]*)\z`)

// plainNum is Num, worked out in another way.
func plainNum(w string) (int64, bool) {
	if !isShow.MatchString(w) {
		return 0, false
	}
	n, _ := new(big.Int).SetString(w, 10)
	if !n.IsInt64() {
		return 0, false
	}
	return n.Int64(), true
}

// TestAllShortWords has all words of up to 5 bytes out of 9.
func TestAllShortWords(t *testing.T) {
	var try func(w string)
	try = func(w string) {
		n, is := plainNum(w)
		wantNum(t, w, n, is)
		if len(w) == 5 {
			return
		}
		for _, c := range "-+0129_ a" {
			try(w + string(c))
		}
	}
	try("")
}

// TestEachByteBesideDigits has each of them alone, and ahead of, within and behind numbers.
func TestEachByteBesideDigits(t *testing.T) {
	for c := range 256 {
		one := string([]byte{byte(c)})
		for _, around := range [][2]string{{"", ""}, {"", "12"}, {"1", "2"}, {"12", ""}, {"-", "12"}, {"-12", ""}, {"", "-12"}, {"922337203685477580", ""}, {"-922337203685477580", ""}} {
			w := around[0] + one + around[1]
			n, is := plainNum(w)
			wantNum(t, w, n, is)
		}
	}
}

// TestNumAroundTheEnds has numbers about each power of 2 from 2^62 on: where one would come round into int64 again.
func TestNumAroundTheEnds(t *testing.T) {
	for power := uint(62); power <= 130; power++ {
		for by := int64(-20); by <= 20; by++ {
			n := new(big.Int).Lsh(big.NewInt(1), power)
			n.Add(n, big.NewInt(by))
			for _, w := range []string{n.String(), "-" + n.String()} {
				want, is := plainNum(w)
				wantNum(t, w, want, is)
				wantNum(t, "0"+w, 0, false)
				wantNum(t, w+"x", 0, false)
			}
		}
	}
}

func TestRef(t *testing.T) {
	for n := range 10000 {
		wantRef(t, "%"+strconv.Itoa(n), '%', n, true)
		wantRef(t, "^"+strconv.Itoa(n), '^', n, true)
	}
	for n := 10000; n <= 25000; n++ {
		wantRef(t, "%"+strconv.Itoa(n), '%', 0, false)
	}
	for n := 1; n <= 12000; n++ {
		wantRef(t, "%-"+strconv.Itoa(n), '%', 0, false)
	}
}

func TestRefOfWhatIsNone(t *testing.T) {
	for _, w := range []string{
		"", "%", "%%", "1", "12", "^1", "1%", " %1", "%%1", "%^1", "^%1", "%-", "%-0", "%-1", "%-9999", "%+1", "%00", "%01", "%007", "%09999", "%00000",
		"% 1", "%1 ", "%1a", "%a", "%0x1", "%1_0", "%1e2", "%1.0", "%1%", "%10000", "%10001", "%99999", "%65536", "%65537",
		"%4294967296", "%4294967297", "%9223372036854775807", "%9223372036854775808", "%-9223372036854775808", "%18446744073709551616",
		"%18446744073709551617", "%99999999999999999999", "%" + strings.Repeat("0", 1<<20), "%" + strings.Repeat("9", 1<<20), strings.Repeat("%", 1<<20),
	} {
		wantRef(t, w, '%', 0, false)
	}
}

// TestRefOfEachMark: a mark may be any byte, also one that numbers are shown with.
func TestRefOfEachMark(t *testing.T) {
	for c := range 256 {
		mark, own := byte(c), string([]byte{byte(c)})
		for _, n := range []int{0, 1, 9, 10, 42, 9999} {
			w := strconv.Itoa(n)
			wantRef(t, own+w, mark, n, true)
			behind, is := plainRef(own + w)
			wantRef(t, own+own+w, mark, behind, is)
			wantRef(t, own+w, mark+1, 0, false)
			wantRef(t, own+w, mark^0x80, 0, false)
		}
		for _, w := range []string{"", "-1", "-0", "00", "01", "10000", "99999", "+1", " 1", "1 "} {
			wantRef(t, own+w, mark, 0, false)
		}
		wantRef(t, "", mark, 0, false)
	}
}

// plainRef is what w, behind a mark, is, worked out in another way.
func plainRef(w string) (int, bool) {
	n, is := plainNum(w)
	if !is || n < 0 || n >= 10000 {
		return 0, false
	}
	return int(n), true
}

func TestRefOfMarksThatNumbersHave(t *testing.T) {
	wantRef(t, "12", '1', 2, true)
	wantRef(t, "10", '1', 0, true)
	wantRef(t, "1", '1', 0, false)
	wantRef(t, "100", '1', 0, false)
	wantRef(t, "19999", '1', 9999, true)
	wantRef(t, "110000", '1', 0, false)
	wantRef(t, "00", '0', 0, true)
	wantRef(t, "05", '0', 5, true)
	wantRef(t, "005", '0', 0, false)
	wantRef(t, "0", '0', 0, false)
	wantRef(t, "-5", '-', 5, true)
	wantRef(t, "-0", '-', 0, true)
	wantRef(t, "--5", '-', 0, false)
	wantRef(t, "-", '-', 0, false)
	wantRef(t, "5", '-', 0, false)
}
