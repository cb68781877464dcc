package code

import (
	"bytes"
	"reflect"
	"runtime"
	"strconv"
	"strings"
	"testing"

	"planish/api"
	"planish/ir"
	"planish/wf"
)

func TestEncodeOfNothing(t *testing.T) {
	want := []byte{0x00, 0x70, 0x6c, 0x6e, 0x31, 0, 0, 0, 0}
	wantEncode(t, "nothing", api.Module{}, want)
	wantEncode(t, "empty lists", api.Module{Externs: []api.Extern{}, Globals: []api.Global{}, Tables: []api.Table{}, Funcs: []api.Func{}}, want)
}

// TestEncodeByteByByte has bytes that were written by hand; those that all modules begin with are left out.
func TestEncodeByteByByte(t *testing.T) {
	for _, c := range []struct{ text, bytes string }{
		{"extern e none", "0101 010165 00 00  00  00  00"},
		{"extern e i1 i64", "0101 010165 0102 0101 0101  00  00  00"},
		{"extern ab i64 i1 i64 i1\nextern c none", "0102 01026162 0101 0103 0102 0101 0102 010163 00 00  00  00  00"},
		{"extern e none i64 i1 i1 i1 i64", "0101 010165 00 0105 0101 0102 0102 0102 0101  00  00  00"},
		{"global g 0", "00  0101 010167 0101 00  00  00"},
		{"global g 1 -1 -9223372036854775808 9223372036854775807 256\nglobal abcdefghijkl -257",
			`00  0102 010167 0105 0101 10 187fffffffffffffff 087fffffffffffffff 020100
			010c6162636465666768696a6b6c 0101 120100  00  00`},
		{"table t -", "00  00  0101 010174 0101 10  00"},
		{"table t - g f g\ntable u f\nout f none\n^0\nret\nfunc g none\n^0\nstop",
			`00  00  0102 010174 0104 10 0101 00 0101 010175 0101 00
			0102 010166 0101 00 00 0101 0101 011d 00 00 00 00 00 00
			010167 00 00 00 0101 0101 011e 00 00 00 00 00 00`},
		{"func f fun ptr fun i1\n^0\nret %2",
			"00  00  00  0101 010166 00 0104 0103 0103 0104 0102 0101 0101 011d 00 00 00 00 0101 0102 00"},
		{smallText,
			`0101 010165 0102 0101 0101  0101 010167 0102 0101 12012b  0101 010174 0102 10 00
			0101 010166 0101 0101 0101 0101 0103
			0103 0101 0101 0102 00 1101 00 00  0117 0102 0103 00 00 0101 0101 00  011c 00 00 00 00 0101 0103 0102 0101 0102
			0101 011b 00 00 00 00 00 0101 0102
			0102 011a 0101 0104 00 00 0102 0101 0102 0102 00 0101  011d 00 00 00 00 0101 0104 00`},
	} {
		wantEncode(t, strconv.Quote(c.text), parsed(t, c.text), hexBytes(t, "00706c6e31"+c.bytes))
	}
}

// TestEncodeOfOwnNumbers: the last Ins have in each field another number, of one byte and of two.
func TestEncodeOfOwnNumbers(t *testing.T) {
	var s strings.Builder
	s.WriteString("table a -\ntable b -\ntable c -\nfunc h none\n^0\nret\nfunc g i64 i64 i64 i64\n^0\nret %3\n")
	s.WriteString("out f i64 i64 i64 i64 i64 i64\n^0\n")
	for v := 6; v < 298; v++ {
		s.WriteString("%" + strconv.Itoa(v) + " i64 = num 7\n")
	}
	s.WriteString("%298 fun = tab c %297\n%299 i64 = call g %297 %4 %256\n%300 ptr = room 16\n%301 i64 = num -300\nret %301\n")
	b, e := Encode(parsed(t, s.String()))
	want := hexBytes(t, `0118 0104 02012a 0102 00 0101 020129 00  0116 0101 02012b 0101 00 0103 020129 0104 020100 00
		0112 0103 02012c 00 0110 00 00  0101 0101 02012d 00 12012b 00 00  011d 00 00 00 00 0101 02012d 00`)
	if !bytes.HasSuffix(b, want) || e != api.OK {
		t.Errorf("P9.1: Encode: %d: %s, not at the end % x", e, short("% x", b[max(0, len(b)-100):]), want)
	}
}

func TestEncodeOfSamples(t *testing.T) {
	for _, s := range []string{sampleText, smallText} {
		m := parsed(t, s)
		wantEncode(t, strconv.Quote(s), m, bytesOf(partsOf(m)))
	}
}

// TestEncodeOfOut turns Out alone.
func TestEncodeOfOut(t *testing.T) {
	m := parsed(t, "func f none\n^0\nret")
	wantEncode(t, "a function that is not Out", m, hexBytes(t, "00706c6e31 00 00 00 0101 010166 00   00 00 0101 0101 011d 00 00 00 00 00 00"))
	m.Funcs[0].Out = true
	wantEncode(t, "a function that is Out", m, hexBytes(t, "00706c6e31 00 00 00 0101 010166 0101 00 00 0101 0101 011d 00 00 00 00 00 00"))
}

func TestEncodeOfWhatMayNotBe(t *testing.T) {
	for _, c := range faults(t) {
		wantNoEncode(t, c.what, c.m, c.e)
	}
	f := parsed(t, smallText)
	f.Funcs[0].Blocks[2].Ins[1].Args[0] = 1 << 32
	wantNoEncode(t, "a value beyond an int32", f, api.ErrUse)
}

func TestIs(t *testing.T) {
	const head = "\x00pln1"
	for k := range len(head) {
		if Is([]byte(head[:k])) {
			t.Errorf("P9.1: Is %q", head[:k])
		}
		for turned := range 256 {
			b := []byte(head + "\x00\x00\x00\x00")
			b[k] = byte(turned)
			if Is(b) != (b[k] == head[k]) || Is(b[:5]) != (b[k] == head[k]) {
				t.Errorf("P9.1: Is %q: %t; Is %q: %t", b, Is(b), b[:5], Is(b[:5]))
			}
		}
	}
	for _, s := range []string{"", "pln1", "\x00\x00pln1", "x\x00pln1", "pln1\x00", "\x00PLN1", "func f none\n^0\nret\n"} {
		if Is([]byte(s)) {
			t.Errorf("P9.1: Is %q", s)
		}
	}
	for _, s := range []string{"", "x", "\x00", "\x00\x00\x00\x00", "\xff\xff\xff\xff\xff\xff\xff\xff\xff", strings.Repeat("x", api.MaxBytes)} {
		if !Is([]byte(head + s)) {
			t.Errorf("P9.1: Is not %q and %d bytes", head, len(s))
		}
	}
	if Is(nil) {
		t.Error("P9.1: Is nil")
	}
	whole := []byte(head)
	if Is(whole[:4]) {
		t.Error("P0.4: Is reads what lies behind the length")
	}
}

// largest is about as much as may be: functions of as many Ins and blocks as may be, most of the Ins Phis with an entry
// of each other block.
func largest() api.Module {
	f := api.Func{Params: []int{api.I64, api.I1}, Result: api.I64}
	const last = api.MaxBlocks - 1
	for b := range last {
		end := api.Ins{Op: api.Br, Args: []int{2}, Into: []int{b + 1, last}}
		if b == last-1 {
			end = api.Ins{Op: api.Jump, Into: []int{last}}
		}
		f.Blocks = append(f.Blocks, api.Block{Ins: []api.Ins{end}})
	}
	var join api.Block
	for v := 3; v < 3+api.MaxIns-last-1; v++ {
		phi := api.Ins{Op: api.Phi, Type: api.I64, To: v}
		for b := range last {
			phi.Args = append(phi.Args, 1)
			phi.Into = append(phi.Into, b)
		}
		join.Ins = append(join.Ins, phi)
	}
	join.Ins = append(join.Ins, api.Ins{Op: api.Ret, Args: []int{1}})
	f.Blocks = append(f.Blocks, join)
	var m api.Module
	for i := range api.MaxFuncs {
		f.Name = "f" + strconv.Itoa(i)
		m.Funcs = append(m.Funcs, f)
	}
	return ir.Copy(m)
}

// TestEncodeOfMuch: what is written is not copied again and again.
func TestEncodeOfMuch(t *testing.T) {
	m := largest()
	if e := wf.Check(m); e != api.OK || ir.Whole(m) != api.MaxFuncs*api.MaxIns {
		t.Fatalf("the test has %d for a module of as many Ins as may be", e)
	}
	var before, after runtime.MemStats
	runtime.ReadMemStats(&before)
	b, e := Encode(m)
	runtime.ReadMemStats(&after)
	if !bytes.Equal(b, bytesOf(partsOf(m))) || e != api.OK {
		t.Errorf("P9.1: Encode of a module of as many Ins as may be: %d, %d bytes", e, len(b))
	}
	if all := after.TotalAlloc - before.TotalAlloc; all > 1<<28 {
		t.Errorf("P9.1: Encode of a module of as many Ins as may be takes %d bytes", all)
	}
	wantDecode(t, "a module of as many Ins as may be", b, m)
}

// TestEncodeKeepsToItself: m is not changed, what lies behind its lists is not read, and no answer is in another one's
// memory, nor in m's.
func TestEncodeKeepsToItself(t *testing.T) {
	plain := parsed(t, sampleText)
	want := bytesOf(partsOf(plain))
	for room := range 3 {
		m := spared(plain, room)
		before := memory(m)
		one, e := Encode(m)
		two, _ := Encode(m)
		if !bytes.Equal(one, want) || !bytes.Equal(two, want) || e != api.OK {
			t.Errorf("P0.4: Encode with %d places behind each list: %d: %s", room, e, short("% x", one))
		}
		if !reflect.DeepEqual(before, memory(m)) {
			t.Errorf("P0.4: Encode changes what it is handed, with %d places behind each list", room)
		}
		wantApart(t, m, one, two)
	}
	none, _ := Encode(api.Module{})
	again, _ := Encode(api.Module{})
	wantApart(t, none, again)
	clear(none[:cap(none)])
	wantEncode(t, "nothing, once more", api.Module{}, again)
}
