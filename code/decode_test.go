package code

import (
	"bytes"
	"fmt"
	"math"
	"runtime"
	"slices"
	"strings"
	"testing"

	"planish/api"
	"planish/ir"
)

// TestThereAndBack: what is encoded is decoded as it was, and encoded again as the same bytes.
func TestThereAndBack(t *testing.T) {
	for _, s := range []string{
		"", sampleText, smallText, "extern e none", "extern e i64 i1 i1 i1 i64 i64\nextern d i1", "global g 0\nglobal h -9223372036854775808 9223372036854775807",
		"table t - - - - - - - - - - - -", "out o none\n^0\nret", "func f none fun ptr fun ptr i1\n^0\nstop",
	} {
		m := parsed(t, s)
		b, e := Encode(m)
		if e != api.OK {
			t.Fatalf("P9.1: Encode of %q: %d", s, e)
		}
		wantDecode(t, fmt.Sprintf("the bytes of %q", s), b, m)
		back, _ := Decode(b)
		wantEncode(t, fmt.Sprintf("what the bytes of %q are", s), back, b)
	}
}

// TestDecodeByteByByte has bytes that were written by hand.
func TestDecodeByteByByte(t *testing.T) {
	wantDecode(t, "nothing", hexBytes(t, "00706c6e31 00 00 00 00"), api.Module{})
	wantDecode(t, "an extern, a global, a table, a function",
		hexBytes(t, "00706c6e31 0101 010165 0102 0102 0101 0102  0101 010167 0103 02012c 11ff 0101  0101 010174 0102 00 10  0101 010166 0101 0101 0101 0102 0101 0101 011e 00 00 00 00 00 00"),
		api.Module{
			Externs: []api.Extern{{Name: "e", Result: api.I1, Params: []int{api.I64, api.I1}}},
			Globals: []api.Global{{Name: "g", Cells: []int64{300, -256, 1}}},
			Tables:  []api.Table{{Name: "t", Funcs: []int{0, -1}}},
			Funcs:   []api.Func{{Name: "f", Out: true, Result: api.I64, Params: []int{api.I1}, Blocks: []api.Block{{Ins: []api.Ins{{Op: api.Stop}}}}}},
		})
	for _, s := range []string{
		"", "00", "00706c6e31", "00706c6e31 00", "00706c6e31 00 00", "00706c6e31 00 00 00", "00706c6e31 00 00 00 00 00", "00706c6e32 00 00 00 00",
		"00 00 00 00", "706c6e31 00 00 00 00", "01706c6e31 00 00 00 00", "00706c6e31 0100 00 00 00", "00706c6e31 10 00 00 00", "00706c6e31 00 00 00 0101",
		"00706c6e31 0101 00 00 00", "00706c6e31 0101 010165 00 00 00 00", "00706c6e31 00 0101 010167 0101 00 00", "00706c6e31 09 00 00 00",
	} {
		wantNoDecode(t, s, hexBytes(t, s), api.ErrForm)
	}
	wantNoDecode(t, "nil", nil, api.ErrForm)
}

// long is bytes of the length that are laid out well, of a module that Check refuses for a name alone: its Phi has as
// many entries as there is room for.
func long(t *testing.T, length int) []byte {
	t.Helper()
	b := hexBytes(t, `00706c6e31 00 00 00  0101 010146 00 00 00 0102
		0101 011b 00 00 00 00 00 0101 0101  0102 011a 0101 0101 00 00`)
	end := hexBytes(t, "011d 00 00 00 00 00 00")
	rest := length - len(b) - len(end) - 2*4
	args, into := make([]byte, rest/2), make([]byte, rest/2)
	if rest%2 == 1 {
		args = append(numberBytes(1), args[1:]...)
	}
	b = append(append(b, numberBytes(int64(rest/2))...), args...)
	b = append(append(b, numberBytes(int64(rest/2))...), into...)
	b = append(b, end...)
	if len(b) != length {
		t.Fatalf("the test has %d bytes for %d", len(b), length)
	}
	return b
}

func TestDecodeOfLengths(t *testing.T) {
	b := long(t, api.MaxBytes)
	wantNoDecode(t, "as many bytes as may be", b, api.ErrName)
	wantNoDecode(t, "one byte fewer than may be", long(t, api.MaxBytes-1), api.ErrName)
	wantNoDecode(t, "one byte more than may be", long(t, api.MaxBytes+1), api.ErrLimit)
	wantNoDecode(t, "as many bytes as may be, one of them turned", slices.Concat(b[:len(b)-1], []byte{9}), api.ErrForm)
	wantNoDecode(t, "one byte more than may be, that one behind the module", append(slices.Clone(b), 0), api.ErrLimit)
	for _, first := range []byte{0, 1, 255} {
		wantNoDecode(t, "as many bytes as may be, all alike", bytes.Repeat([]byte{first}, api.MaxBytes), api.ErrForm)
		wantNoDecode(t, "one byte more than may be, all alike", bytes.Repeat([]byte{first}, api.MaxBytes+1), api.ErrLimit)
	}
	wantNoDecode(t, "many more bytes than may be", make([]byte, 3*api.MaxBytes), api.ErrLimit)
	nothing := bytesOf(partsOf(api.Module{}))
	wantNoDecode(t, "nothing, and bytes behind it up to as many as may be", append(nothing, make([]byte, api.MaxBytes-len(nothing))...), api.ErrForm)
	wantNoDecode(t, "nothing, and bytes behind it up to one more than may be", append(nothing, make([]byte, api.MaxBytes+1-len(nothing))...), api.ErrLimit)
	// Of a limit that Check holds, too: more blocks than may be.
	head := hexBytes(t, "00706c6e31 00 00 00 0101 010166 00 00 00")
	head = append(head, numberBytes(int64(api.MaxBytes-len(head)-4))...)
	wantNoDecode(t, "as many blocks as there is room for", append(head, make([]byte, api.MaxBytes-len(head))...), api.ErrLimit)
}

func TestDecodeOfBytesCutOff(t *testing.T) {
	for _, m := range []api.Module{{}, parsed(t, smallText), parsed(t, sampleText), overfull(parsed(t, sampleText))} {
		b := bytesOf(partsOf(m))
		for k := range b {
			what := fmt.Sprintf("the first %d of %d bytes", k, len(b))
			wantNoDecode(t, what, slices.Clone(b[:k]), api.ErrForm)
			wantNoDecode(t, what+", the others behind them", b[:k], api.ErrForm)
		}
		for more := range 256 {
			wantNoDecode(t, "a module and a byte behind it", append(slices.Clone(b), byte(more)), api.ErrForm)
		}
		wantNoDecode(t, "a module and a second one behind it", append(slices.Clone(b), b...), api.ErrForm)
		wantNoDecode(t, "a module, as if it began a byte earlier", append([]byte{0}, b...), api.ErrForm)
	}
}

// TestDecodeOfBytesTurned has each byte turned into each other one.
func TestDecodeOfBytesTurned(t *testing.T) {
	for _, m := range []api.Module{{}, parsed(t, smallText), overfull(parsed(t, smallText))} {
		b := bytesOf(partsOf(m))
		for i, was := range b {
			for turned := range 256 {
				b[i] = byte(turned)
				wantInWords(t, fmt.Sprintf("the bytes % x", b), b)
			}
			b[i] = was
		}
	}
	b := bytesOf(partsOf(parsed(t, sampleText)))
	for i, was := range b {
		for _, turned := range []byte{0, 1, 2, 8, 9, 15, 16, 17, 24, 25, 255, was - 1, was + 1, was ^ 16} {
			b[i] = turned
			wantInWords(t, fmt.Sprintf("the sample, byte %d: %d", i, turned), b)
		}
		b[i] = was
	}
}

// TestDecodeOfThrownBytes has several bytes turned, dropped and put in.
func TestDecodeOfThrownBytes(t *testing.T) {
	var d dice = 9
	well := 0
	for _, m := range []api.Module{parsed(t, smallText), parsed(t, sampleText)} {
		whole := bytesOf(partsOf(m))
		for range 20000 {
			b := slices.Clone(whole)
			for range 1 + d.below(3) {
				i := 5 + d.below(len(b)-5)
				switch d.below(4) {
				case 0:
					b = slices.Delete(b, i, i+1)
				case 1:
					b = slices.Insert(b, i, byte(d.below(3)))
				default:
					b[i] = byte(d.below(30))
				}
			}
			if _, e := inWords(b); e == api.OK {
				well++
			}
			wantInWords(t, fmt.Sprintf("the bytes % x", b), b)
		}
	}
	if well < 100 {
		t.Errorf("the test has only %d modules", well)
	}
}

// noNumbers are no numbers, whatever follows them.
func noNumbers(t *testing.T) [][]byte {
	t.Helper()
	var all [][]byte
	for first := range 256 {
		if first > 24 || first > 8 && first < 16 {
			all = append(all, []byte{byte(first)}, []byte{byte(first), 1, 1, 1, 1, 1, 1, 1, 1, 1, 1, 1, 1, 1, 1, 1})
		}
	}
	for k := 1; k <= 8; k++ {
		for _, below := range []int{0, 16} {
			all = append(all, append([]byte{byte(below + k)}, make([]byte, k)...))
			all = append(all, append([]byte{byte(below + k), 0}, bytes.Repeat([]byte{1}, k-1)...))
		}
	}
	for _, s := range []string{"08 8000000000000000", "18 8000000000000000", "08 ffffffffffffffff", "18 ffffffffffffffff"} {
		all = append(all, hexBytes(t, s))
	}
	return all
}

// TestDecodeOfNoNumbers has what is none in the place of each number, also of how long a text is.
func TestDecodeOfNoNumbers(t *testing.T) {
	for _, m := range []api.Module{parsed(t, smallText), overfull(parsed(t, smallText))} {
		parts := partsOf(m)
		for i, p := range parts {
			for _, none := range noNumbers(t) {
				what := fmt.Sprintf("% x in the place of %s (part %d)", none, p.what, i)
				wantNoDecode(t, what, bytesWith(parts, i, append(slices.Clone(none), p.s...)...), api.ErrForm)
				wantNoDecode(t, what+", and nothing behind", append(bytesOf(parts[:i]), none...), api.ErrForm)
			}
		}
	}
}

// TestDecodeOfEndsOfInt32: but for Cells and Num each number fits an int32. The module is one of ErrLimit, so that
// ErrForm is of the number alone.
func TestDecodeOfEndsOfInt32(t *testing.T) {
	parts := partsOf(overfull(parsed(t, sampleText)))
	for i, p := range parts {
		for _, n := range []int64{math.MaxInt32, math.MinInt32, math.MaxInt32 + 1, math.MinInt32 - 1, 1 << 32, 1<<32 + p.n, p.n - 1<<32, 1 << 40, -1 << 40, math.MaxInt64, math.MinInt64} {
			what := fmt.Sprintf("%d in the place of %s (part %d)", n, p.what, i)
			b := bytesWith(parts, i, append(numberBytes(n), p.s...)...)
			fits := n >= math.MinInt32 && n <= math.MaxInt32
			if p.kind == wide || p.kind == number && fits {
				wantNoDecode(t, what, b, api.ErrLimit)
			} else {
				wantNoDecode(t, what, b, api.ErrForm)
			}
		}
	}
}

// TestDecodeOfEndsOfInt64: Cells and Num have each number of 64 bits, and give it as it is.
func TestDecodeOfEndsOfInt64(t *testing.T) {
	m := parsed(t, smallText)
	for _, n := range []int64{math.MinInt64, math.MinInt64 + 1, math.MinInt32 - 1, math.MinInt32, math.MaxInt32, math.MaxInt32 + 1, 1 << 32, math.MaxInt64 - 1, math.MaxInt64} {
		m.Globals[0].Cells = []int64{n, -1 - n}
		m.Funcs[0].Blocks[0].Ins[0].Num = n
		wantDecode(t, fmt.Sprintf("Cells and a Num of %d", n), bytesOf(partsOf(m)), m)
	}
}

func TestDecodeOfOut(t *testing.T) {
	for _, m := range []api.Module{parsed(t, sampleText), overfull(parsed(t, sampleText))} {
		parts := partsOf(m)
		for i, p := range parts {
			if p.kind != out {
				continue
			}
			for _, n := range []int64{2, -1, 3, 10, 255, 256, 257, -2, -256, math.MaxInt32, math.MinInt32, 1 << 32, 1<<32 + 1, math.MaxInt64, math.MinInt64} {
				wantNoDecode(t, fmt.Sprintf("an Out of %d", n), bytesWith(parts, i, numberBytes(n)...), api.ErrForm)
			}
		}
	}
	m := parsed(t, "func f none\n^0\nret\nfunc g i64\n^0\nstop\nfunc h i1\n^0\nstop")
	for outs := range 8 {
		for i := range m.Funcs {
			m.Funcs[i].Out = outs>>i&1 == 1
		}
		wantDecode(t, fmt.Sprintf("three functions, the bits of %d Out", outs), bytesOf(partsOf(m)), m)
	}
}

// TestDecodeOfNames has names of all lengths about MaxName in the place of each name.
func TestDecodeOfNames(t *testing.T) {
	m := parsed(t, smallText)
	for i, set := range []func(m *api.Module, name string){
		func(m *api.Module, name string) { m.Externs[0].Name = name },
		func(m *api.Module, name string) { m.Globals[0].Name = name },
		func(m *api.Module, name string) { m.Tables[0].Name = name },
		func(m *api.Module, name string) { m.Funcs[0].Name = name },
	} {
		for length := range 30 {
			changed := ir.Copy(m)
			set(&changed, "n_1"+strings.Repeat("x", length))
			what := fmt.Sprintf("a name %d of %d bytes", i, 3+length)
			if b := bytesOf(partsOf(changed)); 3+length <= api.MaxName {
				wantDecode(t, what, b, changed)
			} else {
				wantNoDecode(t, what, b, api.ErrForm)
			}
		}
		for _, c := range []struct {
			name string
			e    api.Errno
		}{
			{"", api.ErrName}, {"A", api.ErrName}, {"\x00", api.ErrName}, {"\xff\xfe", api.ErrName}, {"twelve bytes", api.ErrName}, {"thirteen byte", api.ErrForm},
			{strings.Repeat("\x00", 12), api.ErrName}, {strings.Repeat("\x00", 13), api.ErrForm}, {strings.Repeat("x", 127), api.ErrForm},
			{strings.Repeat("x", 256), api.ErrForm}, {strings.Repeat("x", 257), api.ErrForm}, {strings.Repeat("x", 1<<16+1), api.ErrForm},
		} {
			changed := ir.Copy(m)
			set(&changed, c.name)
			wantNoDecode(t, fmt.Sprintf("a name %d %.20q of %d bytes", i, c.name, len(c.name)), bytesOf(partsOf(changed)), c.e)
		}
	}
}

// TestDecodeOfNameLengths has other lengths told than the names have.
func TestDecodeOfNameLengths(t *testing.T) {
	for _, m := range []api.Module{parsed(t, smallText), overfull(parsed(t, sampleText))} {
		parts := partsOf(m)
		for i, p := range parts {
			if p.kind != letters {
				continue
			}
			for _, n := range []int64{-1, -2, 13, 14, 255, 256, math.MaxInt32, math.MinInt32, 1 << 32, 1<<32 + 1, math.MaxInt64, math.MinInt64} {
				wantNoDecode(t, fmt.Sprintf("a name of %d bytes, as told", n), bytesWith(parts, i, append(numberBytes(n), p.s...)...), api.ErrForm)
			}
			for n := range int64(13) {
				wantInWords(t, fmt.Sprintf("a name of %d bytes, as told (part %d)", n, i), bytesWith(parts, i, append(numberBytes(n), p.s...)...))
			}
		}
	}
}

// TestDecodeOfCounts has other counts told than there is.
func TestDecodeOfCounts(t *testing.T) {
	for _, m := range []api.Module{{}, parsed(t, smallText), parsed(t, sampleText), overfull(parsed(t, sampleText))} {
		parts := partsOf(m)
		for i, p := range parts {
			if p.kind != count {
				continue
			}
			rest := int64(len(bytesOf(parts[i+1:])) - 5)
			for _, n := range []int64{-1, -2, -1 - p.n, -256, math.MinInt32, math.MinInt64, rest + 1, rest + 2, 1 << 20, math.MaxInt32 - 1, math.MaxInt32, 1 << 31, 1 << 32, 1<<32 + p.n, math.MaxInt64} {
				wantNoDecode(t, fmt.Sprintf("%s: %d (part %d)", p.what, n, i), bytesWith(parts, i, numberBytes(n)...), api.ErrForm)
			}
			for _, n := range []int64{p.n + 1, p.n - 1, p.n + 2, 0, 1, 2, 3, rest - 1, rest} {
				wantInWords(t, fmt.Sprintf("%s: %d (part %d)", p.what, n, i), bytesWith(parts, i, numberBytes(n)...))
			}
		}
	}
}

// TestDecodeTellsCountsAtOnce: of more items than there are bytes none is read, however many bytes are there, and no room
// is taken for them.
func TestDecodeTellsCountsAtOnce(t *testing.T) {
	parts := partsOf(parsed(t, smallText))
	for i, p := range parts {
		if p.kind != count {
			continue
		}
		ahead := bytesOf(parts[:i])
		for _, n := range []int64{math.MaxInt32, 1 << 31, math.MaxInt64, -1, math.MinInt32, api.MaxBytes, int64(api.MaxBytes - len(ahead) - 3)} {
			b := append(slices.Clone(ahead), numberBytes(n)...)
			b = append(b, make([]byte, api.MaxBytes-len(b))...)
			if taken := takenBy(t, b, api.ErrForm); taken > 1<<16 {
				t.Errorf("P9.2: Decode of %s: %d takes %d bytes", p.what, n, taken)
			}
			wantNoDecode(t, fmt.Sprintf("%s: %d, and nothing behind", p.what, n), append(slices.Clone(ahead), numberBytes(n)...), api.ErrForm)
		}
	}
}

// takenBy tells how much memory Decode of b takes in all.
func takenBy(t *testing.T, b []byte, want api.Errno) uint64 {
	t.Helper()
	var before, after runtime.MemStats
	runtime.ReadMemStats(&before)
	_, e := Decode(b)
	runtime.ReadMemStats(&after)
	if e != want {
		t.Errorf("P9.2: Decode of %d bytes: %d, not %d", len(b), e, want)
	}
	return after.TotalAlloc - before.TotalAlloc
}

// TestDecodeOfWhatMayNotBe: bytes that are laid out well, of modules that Check refuses.
func TestDecodeOfWhatMayNotBe(t *testing.T) {
	for _, c := range faults(t) {
		b := bytesOf(partsOf(c.m))
		wantNoDecode(t, c.what, b, c.e)
		wantNoDecode(t, c.what+", and a byte behind", append(b, 0), api.ErrForm)
		wantNoDecode(t, c.what+", without the last byte", b[:len(b)-1], api.ErrForm)
	}
}

// TestDecodeKeepsToItself: the bytes are not changed, what lies behind them is neither read nor written, and no list of
// an answer is in another one's memory; whatever becomes of the bytes, the module stays.
func TestDecodeKeepsToItself(t *testing.T) {
	want := parsed(t, sampleText)
	b := append(bytesOf(partsOf(want)), "behind"...)
	before := slices.Clone(b)
	one, e := Decode(b[:len(b)-6])
	two, _ := Decode(b[:len(b)-6])
	if e != api.OK || !bytes.Equal(b, before) {
		t.Errorf("P0.4: Decode: %d; changes what it is handed: %t", e, !bytes.Equal(b, before))
	}
	wantApart(t, b, one, two)
	for i := range b {
		b[i] = 0x55
	}
	if !ir.Same(one, want) || !ir.Same(two, want) {
		t.Errorf("P0.4: the module is changed with the bytes: %s", short("%v", one))
	}
}
