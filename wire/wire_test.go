package wire

import (
	"bytes"
	"encoding/hex"
	"math"
	"math/big"
	"strings"
	"testing"

	"planish/api"
)

// written is a number and its form in bytes, in hexadecimal.
type written struct {
	n    int64
	form string
}

// edges are 0, -1, and on both sides of 0 the first and the last number of each count of bytes.
func edges() []written {
	return []written{
		{0, "00"}, {-1, "10"},
		{1, "0101"}, {-2, "1101"},
		{255, "01ff"}, {-256, "11ff"},
		{256, "020100"}, {-257, "120100"},
		{300, "02012c"}, {-301, "12012c"},
		{1<<16 - 1, "02ffff"}, {-1 << 16, "12ffff"},
		{1 << 16, "03010000"}, {-1<<16 - 1, "13010000"},
		{1<<24 - 1, "03ffffff"}, {-1 << 24, "13ffffff"},
		{1 << 24, "0401000000"}, {-1<<24 - 1, "1401000000"},
		{1<<32 - 1, "04ffffffff"}, {-1 << 32, "14ffffffff"},
		{1 << 32, "050100000000"}, {-1<<32 - 1, "150100000000"},
		{1<<40 - 1, "05ffffffffff"}, {-1 << 40, "15ffffffffff"},
		{1 << 40, "06010000000000"}, {-1<<40 - 1, "16010000000000"},
		{1<<48 - 1, "06ffffffffffff"}, {-1 << 48, "16ffffffffffff"},
		{1 << 48, "0701000000000000"}, {-1<<48 - 1, "1701000000000000"},
		{1<<56 - 1, "07ffffffffffffff"}, {-1 << 56, "17ffffffffffffff"},
		{1 << 56, "080100000000000000"}, {-1<<56 - 1, "180100000000000000"},
		{math.MaxInt64 - 1, "087ffffffffffffffe"}, {math.MinInt64 + 1, "187ffffffffffffffe"},
		{math.MaxInt64, "087fffffffffffffff"}, {math.MinInt64, "187fffffffffffffff"},
		{0x0123456789abcdef, "080123456789abcdef"}, {-1 - 0x0123456789abcdef, "180123456789abcdef"},
	}
}

// noNumbers are bytes at whose beginning no number stands.
func noNumbers() []string {
	return []string{
		// they end ahead of the number's end
		"", "01", "02", "0201", "08", "087fffffffffffff", "11", "12", "1201", "18", "187fffffffffffff",
		// the first byte is none of these
		"09", "09010101010101010101", "0f", "0f" + strings.Repeat("01", 15), "19", "19010101010101010101",
		"1f" + strings.Repeat("01", 15), "20", "2101", "30", "3101", "40", "8101", "80", "90", "9101", "ff",
		// the first of the bytes is 0
		"0100", "020001", "0200ff", "0800ffffffffffffff", "080000000000000000",
		"1100", "120001", "1200ff", "1800ffffffffffffff", "180000000000000000",
		// they are above 2^63 - 1
		"088000000000000000", "088000000000000001", "08ffffffffffffffff",
		"188000000000000000", "188000000000000001", "18ffffffffffffffff",
	}
}

// surroundings are bytes to stand ahead of, or behind, what is looked at.
func surroundings() [][]byte {
	return [][]byte{nil, {0}, {16}, {1, 2, 3}, {255, 255, 255, 255, 255, 255, 255, 255, 255}}
}

func unhex(t *testing.T, form string) []byte {
	t.Helper()
	b, err := hex.DecodeString(form)
	if err != nil {
		t.Fatal(err)
	}
	return b
}

func joined(parts ...[]byte) []byte { return bytes.Join(parts, nil) }

func wantNumber(t *testing.T, b []byte, at int, n int64, next int) {
	t.Helper()
	if gotN, gotNext, e := Get(b, at); gotN != n || gotNext != next || e != api.OK {
		t.Errorf("P2.1: Get(%x, %d): %d, %d, %d, not %d, %d, 0", b, at, gotN, gotNext, e, n, next)
	}
}

func wantNoNumber(t *testing.T, b []byte, at int, want api.Errno) {
	t.Helper()
	if n, next, e := Get(b, at); n != 0 || next != 0 || e != want {
		t.Errorf("P2.1: Get(%x, %d): %d, %d, %d, not 0, 0, %d", b, at, n, next, e, want)
	}
}

func wantText(t *testing.T, b []byte, at, most int, s string, next int) {
	t.Helper()
	if gotS, gotNext, e := GetText(b, at, most); gotS != s || gotNext != next || e != api.OK {
		t.Errorf("P2.2: GetText(%x, %d, %d): %q, %d, %d, not %q, %d, 0", b, at, most, gotS, gotNext, e, s, next)
	}
}

func wantNoText(t *testing.T, b []byte, at, most int, want api.Errno) {
	t.Helper()
	if s, next, e := GetText(b, at, most); s != "" || next != 0 || e != want {
		t.Errorf("P2.2: GetText(%x, %d, %d): %q, %d, %d, not \"\", 0, %d", b, at, most, s, next, e, want)
	}
}

func TestPutWritesTheForm(t *testing.T) {
	for _, w := range edges() {
		for _, ahead := range surroundings() {
			want := joined(ahead, unhex(t, w.form))
			if got := Put(ahead, w.n); !bytes.Equal(got, want) {
				t.Errorf("P2.1: Put(%x, %d): %x, not %x", ahead, w.n, got, want)
			}
		}
	}
}

func TestGetReadsTheForm(t *testing.T) {
	for _, w := range edges() {
		form := unhex(t, w.form)
		for _, ahead := range surroundings() {
			for _, behind := range surroundings() {
				wantNumber(t, joined(ahead, form, behind), len(ahead), w.n, len(ahead)+len(form))
			}
		}
	}
}

func TestGetOfAPlaceThatIsNone(t *testing.T) {
	for _, b := range [][]byte{nil, {}, {0}, {0, 0}, {1, 5, 16}} {
		for _, at := range []int{-1, -2, math.MinInt, len(b) + 1, len(b) + 2, math.MaxInt} {
			wantNoNumber(t, b, at, api.ErrRange)
		}
	}
}

func TestGetAtTheEnd(t *testing.T) {
	for _, b := range [][]byte{nil, {}, {0}, {0, 0}, {1, 5, 16}} {
		wantNoNumber(t, b, len(b), api.ErrForm)
	}
}

func TestGetWhereNoNumberStands(t *testing.T) {
	for _, form := range noNumbers() {
		for _, ahead := range surroundings() {
			wantNoNumber(t, joined(ahead, unhex(t, form)), len(ahead), api.ErrForm)
		}
	}
}

func TestGetOfANumberCutShort(t *testing.T) {
	for _, w := range edges() {
		form := unhex(t, w.form)
		for length := range form {
			// The rest of the number lies behind the length, where nothing is read (P0.4).
			wantNoNumber(t, form[:length], 0, api.ErrForm)
		}
	}
}

func TestGetOfEachFirstByte(t *testing.T) {
	for first := range 256 {
		b := append([]byte{byte(first)}, bytes.Repeat([]byte{1}, 256)...)
		count := first % 16
		if first >= 32 || count > 8 {
			wantNoNumber(t, b, 0, api.ErrForm)
			continue
		}
		want := new(big.Int).SetBytes(b[1 : 1+count]).Int64()
		if first >= 16 {
			want = -1 - want
		}
		wantNumber(t, b, 0, want, 1+count)
	}
}

func TestGetFromEachPlace(t *testing.T) {
	b := unhex(t, "0101"+"10"+"02012c"+"00"+"1101")
	wantNumber(t, b, 0, 1, 2)
	wantNumber(t, b, 1, 16, 3)
	wantNumber(t, b, 2, -1, 3)
	wantNumber(t, b, 3, 300, 6)
	wantNumber(t, b, 4, 44, 6)
	wantNoNumber(t, b, 5, api.ErrForm)
	wantNumber(t, b, 6, 0, 7)
	wantNumber(t, b, 7, -2, 9)
	wantNoNumber(t, b, 8, api.ErrForm)
	wantNoNumber(t, b, 9, api.ErrForm)
	wantNoNumber(t, b, 10, api.ErrRange)
}

// putText is a text, and its form in bytes ahead of the text itself, in hexadecimal.
type putText struct{ s, ahead string }

func texts() []putText {
	every := make([]byte, 256)
	for i := range every {
		every[i] = byte(i)
	}
	return []putText{
		{"", "00"}, {"a", "0101"}, {"\x00", "0101"}, {"hey", "0103"}, {"h\u00e9\u4e16", "0106"},
		{"\xff\xfe\x80\x00\xc3", "0105"}, {string(every), "020100"}, {string(every[1:]), "01ff"},
		{strings.Repeat("x", 300), "02012c"}, {strings.Repeat("y", 1<<16-1), "02ffff"}, {strings.Repeat("z", 1<<16), "03010000"},
	}
}

func TestPutTextWritesTheForm(t *testing.T) {
	for _, c := range texts() {
		for _, ahead := range surroundings() {
			want := joined(ahead, unhex(t, c.ahead), []byte(c.s))
			if got := PutText(ahead, c.s); !bytes.Equal(got, want) {
				t.Errorf("P2.2: PutText(%x, a text of %d bytes): %d bytes, not %d, or not these", ahead, len(c.s), len(got), len(want))
			}
		}
	}
}

func TestGetTextReadsTheForm(t *testing.T) {
	for _, c := range texts() {
		form := joined(unhex(t, c.ahead), []byte(c.s))
		for _, ahead := range surroundings() {
			for _, behind := range surroundings() {
				b := joined(ahead, form, behind)
				for _, most := range []int{len(c.s), len(c.s) + 1, math.MaxInt} {
					wantText(t, b, len(ahead), most, c.s, len(ahead)+len(form))
				}
				for _, most := range []int{len(c.s) - 1, -1, math.MinInt} {
					wantNoText(t, b, len(ahead), most, api.ErrLimit)
				}
			}
		}
	}
}

func TestGetTextOfATextCutShort(t *testing.T) {
	b := joined([]byte{9}, unhex(t, "0103"), []byte("hey"))
	for length := 1; length < len(b); length++ {
		wantNoText(t, b[:length], 1, 3, api.ErrForm)
		wantNoText(t, b[:length], 1, math.MaxInt, api.ErrForm)
	}
	wantText(t, b, 1, 3, "hey", 6)
	wantNoText(t, unhex(t, "087fffffffffffffff"), 0, math.MaxInt, api.ErrForm)
	wantNoText(t, unhex(t, "09"+"087fffffffffffffff"+"6161"), 1, math.MaxInt, api.ErrForm)
	wantNoText(t, unhex(t, "0501"+"00000000"+"6161"), 0, math.MaxInt, api.ErrForm)
}

// mosts are bounds of which none, some or all are below a text's length.
func mosts() []int { return []int{math.MinInt, -9, -2, -1, 0, 1, 5, math.MaxInt} }

func TestGetTextAnswersGetsErrorFirst(t *testing.T) {
	for _, most := range mosts() {
		for _, at := range []int{-1, math.MinInt, 3, math.MaxInt} {
			wantNoText(t, []byte{0, 0}, at, most, api.ErrRange)
		}
		wantNoText(t, nil, 1, most, api.ErrRange)
		wantNoText(t, nil, 0, most, api.ErrForm)
		wantNoText(t, []byte{0, 0}, 2, most, api.ErrForm)
		for _, form := range noNumbers() {
			wantNoText(t, unhex(t, form), 0, most, api.ErrForm)
		}
	}
}

func TestGetTextOfANumberBelowNoughtWhateverMostIs(t *testing.T) {
	for _, most := range mosts() {
		for _, form := range []string{"10", "1061", "1101", "11016161", "120100", "187fffffffffffffff"} {
			wantNoText(t, unhex(t, form), 0, most, api.ErrForm)
		}
	}
}

func TestGetTextLimitAheadOfTheEnd(t *testing.T) {
	for _, form := range []string{"0102", "010261", "0106", "087fffffffffffffff", "080100000000000000", "050100000001"} {
		for _, most := range []int{math.MinInt, -1, 0, 1} {
			wantNoText(t, unhex(t, form), 0, most, api.ErrLimit)
		}
	}
	wantNoText(t, unhex(t, "010261"), 0, 2, api.ErrForm)
	wantNoText(t, unhex(t, "0102"), 0, 2, api.ErrForm)
}

// inMemory lays b into memory with spare room behind it that holds a mark.
func inMemory(b []byte) (whole []byte, length int) {
	return joined(b, bytes.Repeat([]byte{0xa5}, 64)), len(b)
}

func TestWhatIsHandedInStays(t *testing.T) {
	for _, b := range [][]byte{{}, {0}, {1, 2, 3}, {16, 17, 255}} {
		whole, length := inMemory(b)
		before := bytes.Clone(whole)
		for _, w := range edges() {
			Put(whole[:length], w.n)
		}
		PutText(whole[:length], "")
		PutText(whole[:length], "hey")
		PutText(whole[:length], strings.Repeat("x", 300))
		if !bytes.Equal(whole, before) {
			t.Errorf("P0.4: %x became %x", before, whole)
		}
	}
}

// puts are the calls that hand out a list, each by its name.
func puts() map[string]func(b []byte) []byte {
	return map[string]func(b []byte) []byte{
		"Put 0":        func(b []byte) []byte { return Put(b, 0) },
		"Put -300":     func(b []byte) []byte { return Put(b, -300) },
		"PutText none": func(b []byte) []byte { return PutText(b, "") },
		"PutText":      func(b []byte) []byte { return PutText(b, "abc") },
	}
}

func fill(b []byte) {
	for i := range b {
		b[i] = 0xee
	}
}

func TestWhatIsHandedOutIsNewMemory(t *testing.T) {
	for name, put := range puts() {
		whole, length := inMemory([]byte{1, 2, 3})
		before := bytes.Clone(whole)
		first := put(whole[:length])
		second := put(first)
		third := put(first)
		keptSecond, keptThird := bytes.Clone(second), bytes.Clone(third)
		fill(first[:cap(first)])
		if !bytes.Equal(whole, before) || !bytes.Equal(second, keptSecond) || !bytes.Equal(third, keptThird) {
			t.Errorf("P0.4: %s: a write into an answer shows elsewhere", name)
		}
		fill(second[:cap(second)])
		if !bytes.Equal(third, keptThird) {
			t.Errorf("P0.4: %s: two answers of one list share memory", name)
		}
	}
}

func TestWhatIsHandedInIsNotKept(t *testing.T) {
	b := PutText([]byte{1, 2}, "hey")
	s, _, e := GetText(b, 2, 3)
	number := Put(b, 7)
	kept := bytes.Clone(number)
	fill(b)
	if s != "hey" || e != api.OK {
		t.Errorf("P0.4: the text became %q", s)
	}
	if !bytes.Equal(number, kept) {
		t.Errorf("P0.4: %x became %x", kept, number)
	}
}

func TestNilAndTheEmptyListAreTheSame(t *testing.T) {
	for name, put := range puts() {
		if fromNil, fromEmpty := put(nil), put([]byte{}); !bytes.Equal(fromNil, fromEmpty) {
			t.Errorf("P0.4: %s: %x of nil, %x of the empty list", name, fromNil, fromEmpty)
		}
	}
}

func TestWhatIsPutInARowIsGot(t *testing.T) {
	var b []byte
	for _, w := range edges() {
		b = PutText(Put(b, w.n), w.form)
	}
	at := 0
	for _, w := range edges() {
		n, next, e := Get(b, at)
		s, end, f := GetText(b, next, 18)
		if n != w.n || e != api.OK || s != w.form || f != api.OK {
			t.Fatalf("P2.3: at %d: %d, %d, %q, %d, not %d and %q", at, n, e, s, f, w.n, w.form)
		}
		at = end
	}
	if at != len(b) {
		t.Errorf("P2.3: the end is %d, not %d", at, len(b))
	}
}

// TestANumberHasOneForm goes through all bytes of length 3 at most whose first says 0, 1 or 2 bytes.
func TestANumberHasOneForm(t *testing.T) {
	forms := map[int64]int{}
	for _, sign := range []byte{0, 16} {
		for count := range 3 {
			for digits := range 1 << (8 * count) {
				b := []byte{sign + byte(count), byte(digits >> 8), byte(digits)}
				if count < 2 {
					b = []byte{sign + byte(count), byte(digits)}[:1+count]
				}
				n, next, e := Get(b, 0)
				if e != api.OK {
					continue
				}
				forms[n]++
				if got := Put(nil, n); next != len(b) || !bytes.Equal(got, b) {
					t.Fatalf("P2.3: %x is got as %d, and put as %x", b, n, got)
				}
			}
		}
	}
	for n := int64(-1 << 16); n < 1<<16; n++ {
		if forms[n] != 1 {
			t.Fatalf("P2.3: %d has %d forms", n, forms[n])
		}
	}
}
