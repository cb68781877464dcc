package text

import (
	"reflect"
	"strconv"
	"strings"
	"testing"
	"unsafe"

	"planish/api"
	"planish/ir"
)

// head is the beginning of a function, within its first block.
const head = "func f i64 i64\n^0\n"

func TestParseOfTheSample(t *testing.T) { wantParse(t, sampleText, sampleModule()) }

func TestExample(t *testing.T) {
	want := api.Module{Funcs: []api.Func{{Name: "f", Params: []int{1}, Result: api.I64, Blocks: []api.Block{row(give(api.Add, api.I64, 2, 1, 1), take(api.Ret, 2))}}}}
	wantParse(t, "func f i64 i64\n^0\n%2 i64 = add %1 %1\nret %2", want)
	wantParse(t, "func f i64 i64\n^0\n%2 i64 = add %1 %1\nret %2\n", want)
	wantPrint(t, "the example", want, "func f i64 i64\n^0\n%2 i64 = add %1 %1\nret %2\n")
}

func TestParseOfNothing(t *testing.T) {
	for _, s := range []string{"", "\n", " ", "\t\n \n", "#", "# func f", "\n#\n\n"} {
		wantParse(t, s, api.Module{})
	}
}

// TestWhatSaysNothing: remarks, blanks, tabs and empty lines, and what is read of them is printed plain.
func TestWhatSaysNothing(t *testing.T) {
	for _, between := range []string{" ", "\t", "  ", "\t \t"} {
		for _, end := range []string{"\n", " \n", "\t\n", "#\n", " # func f\n", "#!\n\n", "\n\n\n", "\n# ret\n", "\n\t\n", "\n" + between} {
			for _, ahead := range []string{"", "\n", "# all\n\n", between} {
				s := ahead + strings.ReplaceAll(strings.ReplaceAll(sampleText, " ", between), "\n", end)
				wantParse(t, s, sampleModule())
				wantParse(t, strings.TrimRight(s, "\n"), sampleModule())
			}
		}
	}
}

func TestWhatLinesRefuses(t *testing.T) {
	for _, bad := range []string{"\x00", "\x08", "\x0b", "\r", "\x1f", "\x7f", "\x80", "\xff", "ä"} {
		for _, shown := range []string{"!@", "a!@", "ret\n!@", head + "ret %1!@", head + "ret %1 # !@", "word\n!@", head + "call x!@", head + "nom 1\n\n#!@x", "global g!@", sampleText + "!@"} {
			wantFault(t, strings.Replace(shown, "@", bad, 1), api.ErrForm)
			wantFault(t, strings.Replace(shown, "@", bad+"\x00", 1), api.ErrForm)
		}
	}
	for _, begin := range []string{"", "word\n", "\x00", sampleText} {
		long := begin + strings.Repeat("\n", api.MaxBytes-len(begin))
		wantNoParse(t, long+"\n", 0, api.ErrLimit)
		wantNoParse(t, long+"\x00", 0, api.ErrLimit)
	}
	wantParse(t, sampleText+strings.Repeat("\n", api.MaxBytes-len(sampleText)), sampleModule())
}

// TestWordsThatBeginNoLine has them at the beginning, behind what is not a function, behind a function's line, and in a block.
func TestWordsThatBeginNoLine(t *testing.T) {
	words := []string{
		"word", "Func", "FUNC", "fun1", "funcs", "func:", "function", "outs", "Out", "externs", "exter", "externn", "globals", "globa", "tables", "tabl",
		"none", "i64", "i1", "ptr", "-", "=", "1", "0", "+", ":", "%", "%%1", "%x", "%-1", "%01", "%10000", "%1=", "$1", "&", "ads", "addd", "Add", "^^0", "ret%1", "nums", "stop.",
	}
	for _, ahead := range []string{"", "extern e none\n", "global g 1\n", "table t -\n", "func f none\n", "out f none\n", head, head + "ret %1\n", head + "ret %1\n^1\n"} {
		for _, w := range words {
			for _, behind := range []string{"", " x", " f i64", " %1 %1", "\nret", " i64 = num 1"} {
				wantFault(t, ahead+"!"+w+behind, api.ErrForm)
				wantFault(t, ahead+"\t !"+w+behind, api.ErrForm)
			}
		}
	}
}

func TestBlocksOutsideAFunction(t *testing.T) {
	for _, ahead := range []string{"", "extern e none\n", "global g 1\n", "table t -\n", "# func f none\n", "extern func none\n"} {
		for _, w := range []string{"^0", "^1", "^x", "^", "^0 x", "^00"} {
			wantFault(t, ahead+"!"+w, api.ErrForm)
			wantFault(t, ahead+"!"+w+"\n"+head+"ret %1", api.ErrForm)
		}
	}
}

func TestInsOutsideABlock(t *testing.T) {
	lines := []string{"ret", "ret x", "stop", "jump ^1", "br %1 ^1 ^2", "store %1 %1", "call f", "ext e", "via %1", "add %1 %1", "num 1", "phi ^0 %1", "%1 i64 = num 1", "%1", "%x", "%2 i65"}
	for _, ahead := range []string{"", "extern e none\n", "global g 1\n", "table t -\n", "func f none\n", "out f none\n", head + "ret %1\nfunc g none\n", head + "ret %1\nout g none\n"} {
		for _, line := range lines {
			wantFault(t, ahead+"!"+line, api.ErrForm)
			wantFault(t, ahead+"!"+line+"\n^0\nret", api.ErrForm)
		}
	}
}

func TestThingsBehindTheFirstFunction(t *testing.T) {
	for _, ahead := range []string{"func f none\n", "out f none\n", head, head + "ret %1\n", head + "ret %1\nfunc g none\n", "extern e none\nfunc f none\n^0\nret\n"} {
		for _, line := range []string{"extern e none", "global g 1", "table t f", "extern", "global", "table", "extern e i65", "global g x", "table t"} {
			wantFault(t, ahead+"!"+line, api.ErrForm)
			wantFault(t, ahead+"!"+line+"\n^0\nret", api.ErrForm)
		}
	}
	// Ahead of it they may stand in each order, and are told by kind.
	want := api.Module{
		Externs: []api.Extern{{Name: "e"}, {Name: "d", Result: api.I64}}, Globals: []api.Global{{Name: "g", Cells: []int64{1}}, {Name: "h", Cells: []int64{2}}},
		Tables: []api.Table{{Name: "t", Funcs: []int{0}}, {Name: "s", Funcs: []int{-1}}}, Funcs: []api.Func{nothing("f")},
	}
	f := "func f none\n^0\nret\n"
	wantParse(t, "table t f\nglobal g 1\nextern e none\nglobal h 2\nextern d i64\ntable s -\n"+f, want)
	wantParse(t, "extern e none\ntable t f\nextern d i64\ntable s -\nglobal g 1\nglobal h 2\n"+f, want)
}

func TestNumbersOfBlocks(t *testing.T) {
	ends := "jump ^1\n^1\njump ^2\n^2\nret %1\n"
	for _, w := range []string{"^", "^x", "^-1", "^-0", "^+0", "^00", "^01", "^0x", "^0:", "^10000", "^4294967296", "^18446744073709551616", "^%0", "^^0", "^9999", "^4"} {
		wantFault(t, "func f none\n!"+w, api.ErrForm)
		wantFault(t, head+ends+"!"+w, api.ErrForm)
		wantFault(t, "func f none\n!"+w+" x\n^0", api.ErrForm)
	}
	wantFault(t, "func f none\n!^1\n^0\nret", api.ErrForm)
	for _, w := range []string{"^0", "^1", "^2", "^4", "^5"} {
		wantFault(t, head+ends+"!"+w, api.ErrForm)
	}
	for _, w := range []string{"^1", "^2", "^3"} {
		wantFault(t, head+ends+"out g none\n!"+w+"\nret", api.ErrForm)
	}
	wantFault(t, "func f none\n^0 !^1", api.ErrForm)
	wantFault(t, "func f none\n^0 !ret", api.ErrForm)
	wantFault(t, "func f none\n^0 !: x", api.ErrForm)
	one := api.Func{Name: "f", Params: []int{1}, Result: 1, Blocks: []api.Block{row(jump(1)), row(jump(2)), row(take(api.Ret, 1))}}
	two := one
	two.Name = "g"
	wantParse(t, head+ends+"func g i64 i64\n^0\n"+ends, api.Module{Funcs: []api.Func{one, two}})
}

// TestMoreBlocksThanHaveNumbers: 10000 are one too many for a word, and not for a list.
func TestMoreBlocksThanHaveNumbers(t *testing.T) {
	var s strings.Builder
	s.WriteString("func f none\n")
	for b := range 10000 {
		s.WriteString("^" + strconv.Itoa(b) + "\nret\n")
	}
	wantNoParse(t, s.String(), 0, api.ErrLimit)
	wantFault(t, s.String()+"!^10000\nret\n", api.ErrForm)
	wantFault(t, s.String()+"!^9999\nret\n", api.ErrForm)
}

// form is what stands behind a line's first words: classes of words one by one, and such as stand again and again.
type form struct{ fixed, again string }

// forms are, by what a line begins with, those of P8.2.
func forms() map[string]form {
	all := map[string]form{
		"extern": {"any result", "type"}, "func": {"any result", "type"}, "out": {"any result", "type"},
		"global": {"any", "number"}, "table": {"any", "any"},
	}
	for op, f := range opForms() {
		all[op] = f
		all["%2 i64 = "+op] = f
	}
	return all
}

func opForms() map[string]form {
	all := map[string]form{
		"num": {"number", ""}, "room": {"number", ""}, "fun": {"any", ""}, "glo": {"any", ""},
		"not": {"value", ""}, "load": {"value", ""}, "sel": {"value value value", ""}, "tab": {"any value", ""},
		"call": {"any", "value"}, "ext": {"any", "value"}, "via": {"", "value"}, "ret": {"", "value"}, "phi": {"", "block value"},
		"jump": {"block", ""}, "br": {"value block block", ""}, "stop": {"", ""},
	}
	for _, op := range []string{"add", "sub", "mul", "div", "rem", "and", "or", "xor", "shl", "shr", "eq", "lt", "at", "store"} {
		all[op] = form{"value value", ""}
	}
	return all
}

// others are words that are none of a class.
func others(class string) []string {
	switch class {
	case "type":
		return append(others("result"), "none")
	case "result":
		return []string{"i6", "i65", "i64x", "I64", "i", "i2", "i10", "pt", "ptrs", "Ptr", "func", "funs", "non", "None", "0", "1", "%1", "^1", "=", "-", "add", "f", "i64,"}
	case "number":
		return []string{"-", "--1", "+1", "01", "-0", "00", "-01", "1x", "x", "0x1", "1e3", "1.0", "%1", "^1", "i64", "none", "=", "9223372036854775808", "-9223372036854775809", "18446744073709551616", "1,"}
	case "value":
		return []string{"%", "%x", "%-1", "%-0", "%01", "%00", "%+1", "%10000", "%4294967297", "%18446744073709551617", "%%1", "%^1", "%1,", "%1%", "^1", "^0", "1", "0", "x", "i64", "=", "add", "$1"}
	case "block":
		return []string{"^", "^x", "^-1", "^-0", "^01", "^00", "^+1", "^10000", "^4294967297", "^18446744073709551617", "^^1", "^%1", "^1,", "^1^", "%1", "%0", "1", "0", "x", "i64", "=", "add"}
	case "gives":
		return []string{"==", "=1", ":=", "=:", "-", "%1", "^1", "i64", "add", "num", "1", "is"}
	case "op":
		return []string{"ad", "adds", "addd", "Add", "ADD", "nom", "nums", "number", "func", "out", "extern", "global", "table", "glob", "phis", "rooms", "none", "i64", "ptr", "0", "1", "-", "=", "%1", "^1", "gt", "neg", "bra", "xors"}
	}
	return nil
}

// classesOf are those of that many words.
func classesOf(f form, count int) []string {
	classes := strings.Fields(f.fixed)
	for again := strings.Fields(f.again); len(classes) < count; {
		classes = append(classes, again...)
	}
	return classes[:count]
}

func goodWords(classes []string) []string {
	good := map[string]string{"any": "f", "type": "i1", "result": "none", "number": "-7", "value": "%1", "block": "^1"}
	var words []string
	for _, class := range classes {
		words = append(words, good[class])
	}
	return words
}

// lineFault asks for a fault at the ! of a line that begins so, behind what must be ahead of such a line.
func lineFault(t *testing.T, begin string, words ...string) {
	t.Helper()
	ahead := head
	switch strings.TrimSuffix(begin, "!") {
	case "extern", "global", "table":
		ahead = "extern d none\n"
	case "func", "out":
		ahead = "func d none\n"
	}
	line := strings.Join(append([]string{begin}, words...), " ")
	for _, behind := range []string{"", "\n", " \t", " # ret", "#", "\nstop\nword\nfunc"} {
		wantFault(t, ahead+line+behind, api.ErrForm)
		wantFault(t, ahead+"\t"+strings.ReplaceAll(line, " ", " \t ")+behind, api.ErrForm)
	}
}

// counts are how many words of those a line of that form may have, up to some more than it must.
func counts(f form) []int {
	least, again := len(strings.Fields(f.fixed)), len(strings.Fields(f.again))
	if again == 0 {
		return []int{least}
	}
	return []int{least, least + again, least + 2*again, least + 7*again}
}

// TestAnotherWord has, in each place of each line where a word of a class must be, words that are none of it.
func TestAnotherWord(t *testing.T) {
	for begin, f := range forms() {
		for _, count := range counts(f) {
			classes := classesOf(f, count)
			for i, class := range classes {
				for _, other := range others(class) {
					words := goodWords(classes)
					words[i] = "!" + other
					lineFault(t, begin, words...)
				}
			}
		}
	}
}

// TestOneWordFewer cuts each line behind each of its words, where it may not end.
func TestOneWordFewer(t *testing.T) {
	for begin, f := range forms() {
		most := len(strings.Fields(f.fixed))
		for count := range most {
			words := append([]string{begin}, goodWords(classesOf(f, count))...)
			words[count] += "!"
			lineFault(t, words[0], words[1:]...)
		}
	}
	for _, count := range []int{1, 3, 5, 39} {
		words := goodWords(classesOf(opForms()["phi"], count))
		words[count-1] += "!"
		lineFault(t, "%2 i64 = phi", words...)
		lineFault(t, "phi", words...)
	}
}

// TestOneWordMore has behind each line that ends by itself a word that is one too many, whatever it is.
func TestOneWordMore(t *testing.T) {
	for begin, f := range forms() {
		if f.again != "" {
			continue
		}
		for _, more := range []string{"%1", "^1", "1", "f", "i64", "=", "-", "ret", "word"} {
			for _, behind := range []string{"", "%1", "word"} {
				words := append(goodWords(strings.Fields(f.fixed)), "!"+more, behind)
				lineFault(t, begin, words...)
			}
		}
	}
}

// TestLinesThatFit: none of the words of a line that has a form's is a fault, however many stand again and again.
func TestLinesThatFit(t *testing.T) {
	for begin, f := range forms() {
		for _, count := range counts(f) {
			line := strings.Join(append([]string{begin}, goodWords(classesOf(f, count))...), " ")
			ahead := "\n"
			if _, isOp := opForms()[begin[strings.LastIndexByte(begin, ' ')+1:]]; isOp {
				ahead = "func f i64 i64\n^0\n"
			}
			if m, at, e := Parse(ahead + line + "\n"); e == api.ErrForm && at != 0 || !ir.Same(m, api.Module{}) && e != api.OK {
				t.Errorf("P8.2: Parse of %q: %d at %d", ahead+line, e, at)
			}
		}
	}
}

// TestAheadOfTheWord has the words that an Ins that gives something begins with, and others in their places.
func TestAheadOfTheWord(t *testing.T) {
	good := []string{"%2", "i64", "=", "num"}
	for i, class := range []string{"value", "type", "gives", "op"} {
		for _, other := range others(class) {
			if class == "value" && other[0] != '%' {
				continue // another line: the tests of first words have it
			}
			words := append(append([]string{}, good[:i]...), "!"+other)
			lineFault(t, words[0], words[1:]...)
			lineFault(t, words[0], append(words[1:], good[i+1:]...)...)
			lineFault(t, words[0], append(append(words[1:], good[i+1:]...), "1")...)
			lineFault(t, words[0], append(append(words[1:], good[i+1:]...), "x")...)
		}
	}
	for _, shown := range []string{
		"%2!", "%2 i64!", "%2 i64 =!", "%2 !=", "%2 !i64=", "%2 i64 !num", "%2 !num 1", "%2 !=num 1", "%2 i64 !=num 1", "%2 i64 !i64 = num 1",
		"%2 i64 = !=", "%2 i64 = !%2 i64 = num 1", "%2 !%2 i64 = num 1", "%2 i64 = num != 1",
	} {
		lineFault(t, shown)
	}
}

// TestTwoFaultsOnALine: the first one is told, also ahead of words that are not there.
func TestTwoFaultsOnALine(t *testing.T) {
	for _, shown := range []string{
		"%2 !i65 := nom", "%2 i64 !:= nom 1", "%2 i64 = !nom x", "%2 !x x x", "%2 i64 = add !x y", "%2 i64 = add %1 !y z", "%2 i64 = add !x", "%2 i64 = add %1 %1 !x y",
		"%2 i64 = num !x y", "%2 i64 = num 1 !x y", "%2 i64 = sel !^1 %1", "%2 i64 = sel %1 !^1", "%2 i64 = phi !%1", "%2 i64 = phi !%1 ^0 ^0", "%2 i64 = phi ^0 !^1 %1", "%2 i64 = phi ^0 %1 !%1",
		"%2 i64 = phi ^0 %1 !x", "%2 i64 = phi ^0 !x ^0", "%2 i64 = tab f !x y", "br !x ^1", "br %1 !%1", "br %1 ^1 !x ^1", "br !^1 ^2", "call f !x y", "call f %1 !x y %1", "jump !x y", "jump ^1 !x y", "ret %1 !x %1 y", "stop !x y", "fun f !g h",
	} {
		lineFault(t, shown)
	}
	for _, shown := range []string{"extern e !x y", "extern e none !x y", "extern e none i64 !x i1 y", "global g !x y", "global g 1 !x 2 y", "func f !x y", "func f none i64 !x y", "out f !x", "func f none\n^0 !x y", "func f none\n!^1 x", "!word x", "!ret x", "!^0 x"} {
		wantFault(t, shown, api.ErrForm)
	}
}

// TestTwoFaultsOnTwoLines has each of some lines that are wrong behind each other one: the upper one is told.
func TestTwoFaultsOnTwoLines(t *testing.T) {
	wrong := []string{"!word", "!^2", "ret !x", "jump!", "%2 !x", "%2 i64 = add %1!", "!extern e none", "func!", "func g !x", "!%x", "%2 i64 = num 1 !1", "call!"}
	for _, upper := range wrong {
		for _, lower := range wrong {
			lower = strings.Replace(lower, "!", "", 1)
			wantFault(t, head+upper+"\n"+lower, api.ErrForm)
			wantFault(t, head+"%2 i64 = num 1\n"+upper+"\n\n# x\nret %1\n"+lower+"\nret", api.ErrForm)
		}
	}
}

func TestNamesThatAreNone(t *testing.T) {
	things := "extern e none\nglobal g 1\ntable t f - f\n"
	for _, shown := range []string{
		// one of each other kind, and none at all
		"call !e", "call !g", "call !t", "call !x", "%2 fun = fun !e", "%2 fun = fun !g", "%2 fun = fun !t", "%2 fun = fun !x",
		"%2 ptr = glo !e", "%2 ptr = glo !t", "%2 ptr = glo !f", "%2 ptr = glo !x", "ext !g", "ext !t", "ext !f", "ext !x",
		"%2 fun = tab !e %1", "%2 fun = tab !g %1", "%2 fun = tab !f %1", "%2 fun = tab !x %1",
		// words that are hardly names, and near ones
		"call !-", "call !=", "call !%1", "call !^0", "call !ret", "call !i64", "call !none", "call !F", "call !ff", "call !f2", "call !func %1", "ext !- %1", "%2 ptr = glo !-", "%2 fun = tab !- %1", "%2 fun = fun !%2",
		// two of them
		"call !x\ncall y", "call !y\ncall x", "ext !x\ncall x\n%2 ptr = glo x", "call f\ncall !x %1 %1 %1 %1 %1 %1 %1",
		// ahead of what Check tells
		"ret\ncall !x", "%9 i64 = call !x", "%0 i64 = call !x", "fun !x", "glo !x", "tab !x %1", "add %1 %1\ncall !x", "jump ^7\ncall !x", "%2 i1 = glo !x\n^1", "call !x\nfunc f none\nfunc F none\n^0",
	} {
		wantFault(t, things+head+shown, api.ErrSym)
		wantFault(t, things+head+shown+" # call x\nret %1\n", api.ErrSym)
		wantFault(t, "\n"+things+head+"ret %1\nfunc k none\n^0\n "+shown, api.ErrSym)
	}
	for _, shown := range []string{
		"table t !x", "table t - !x", "table t f !x y f", "table t !x\ntable s y", "table t f -\ntable s !y", "table t !e", "table t !g", "table t !t", "table t !=", "table t !--", "table t !-1", "table t !0", "table t !F", "table t !x\nglobal h",
		"table t !x\nextern t i64 i64 i64 i64 i64 i64 i64 i64",
	} {
		wantFault(t, "extern e none\nglobal g 1\n"+shown+"\n"+head+"call y", api.ErrSym)
		wantFault(t, "global g 1\n"+shown+"\nextern e none\n"+head+"ret %1\n", api.ErrSym)
	}
	wantFault(t, "table t - !f", api.ErrSym)
	wantFault(t, "global g 1\ntable t !g", api.ErrSym)
}

// TestWordsAheadOfNames: a word that can't stand is told ahead of a name that is none, wherever that is.
func TestWordsAheadOfNames(t *testing.T) {
	for _, none := range []string{"call x\n", "ext x\n", "%2 ptr = glo x\n", "%2 fun = tab x %1\n", "%2 fun = fun x\n"} {
		for _, wrong := range []string{"!word", "ret !x", "jump!", "!^2", "!^0", "!extern x none", "func!", "func x !x", "out x none !x", "%2 i64 = num !x"} {
			wantFault(t, head+none+wrong, api.ErrForm)
			wantFault(t, head+none+"ret %1\nfunc g none\n^0\n"+wrong, api.ErrForm)
			wantFault(t, "table t x\n"+head+none+wrong+"\n"+none, api.ErrForm)
			wantFault(t, head+wrong+"\n"+none, api.ErrForm)
		}
	}
	wantFault(t, head+"call x !y", api.ErrForm)
	wantFault(t, head+"%2 fun = tab x!", api.ErrForm)
	wantFault(t, head+"%2 fun = tab x !y", api.ErrForm)
	wantFault(t, "table t x\n!word", api.ErrForm)
	wantFault(t, "table t x\nglobal g !x", api.ErrForm)
}

// TestNamesAheadOfTheirLines: a function may be named ahead of its line, and by a line of its own.
func TestNamesAheadOfTheirLines(t *testing.T) {
	calls := func(name string, sym int) api.Func {
		return api.Func{Name: name, Blocks: []api.Block{row(with(take(api.Call), sym, 0), with(give(api.FunOf, api.Fun, 1), sym, 0), take(api.Ret))}}
	}
	out := calls("c", 0)
	out.Out = true
	wantParse(t, `table t c - a b
func a none
^0
call b
%1 fun = fun b
ret
func b none
^0
call b
%1 fun = fun b
ret
out c none
^0
call a
%1 fun = fun a
ret
`, api.Module{Tables: []api.Table{{Name: "t", Funcs: []int{2, -1, 0, 1}}}, Funcs: []api.Func{calls("a", 1), calls("b", 1), out}})
	user := api.Func{Name: "u", Params: []int{1}, Blocks: []api.Block{row(
		with(take(api.Ext), 1, 0), with(give(api.GloOf, api.Ptr, 2), 1, 0), with(give(api.Tab, api.Fun, 3, 1), 1, 0), take(api.Ret))}}
	wantParse(t, `table p - u
table q -
extern c none
global a 1
extern d none
global b 2
func u none i64
^0
ext d
%2 ptr = glo b
%3 fun = tab q %1
ret
`, api.Module{
		Externs: []api.Extern{{Name: "c"}, {Name: "d"}}, Globals: []api.Global{{Name: "a", Cells: []int64{1}}, {Name: "b", Cells: []int64{2}}},
		Tables: []api.Table{{Name: "p", Funcs: []int{-1, 0}}, {Name: "q", Funcs: []int{-1}}}, Funcs: []api.Func{user},
	})
}

// TestTwoAlike: they are there, and it is Check that tells them.
func TestTwoAlike(t *testing.T) {
	for _, s := range []string{
		"func f none\n^0\ncall f\nret\nfunc f none\n^0\nret", "extern e none\nextern e none\nfunc f none\n^0\next e\nret", "global g 1\nglobal g 1\nfunc f none\n^0\n%1 ptr = glo g\nret",
		"table t -\ntable t f\nfunc f none i64\n^0\n%2 fun = tab t %1\nret", "table f f\nfunc f none\n^0\nret", "func f none i64\n^0\nret\nout f none\n^0\ncall f\nret", "table t -\nglobal t 1",
		"func - none\n^0\ncall -\nret", "table t -\nfunc - none\n^0\nret", "extern %1 none\nfunc f none\n^0\next %1\nret", "func F none\n^0\ncall F\nret", "global = 1",
	} {
		wantNoParse(t, s, 0, api.ErrName)
	}
}

// TestWhatMayNotBe: what reads well, but may not be, is told at 0.
func TestWhatMayNotBe(t *testing.T) {
	for _, c := range []struct {
		s string
		e api.Errno
	}{
		{"func f none", api.ErrLimit}, {"global g", api.ErrLimit}, {"table t", api.ErrLimit}, {"\n\n# x\n  global g", api.ErrLimit}, {"extern e none i64 i64 i64 i64 i64 i64", api.ErrLimit},
		{"global g" + strings.Repeat(" 1", 17), api.ErrLimit}, {"table t" + strings.Repeat(" -", 13), api.ErrLimit}, {strings.Repeat("func f none\n^0\nret\n", 25), api.ErrLimit}, {strings.Repeat("extern e none\n", 13), api.ErrLimit},
		{strings.Repeat("global g 1\n", 13), api.ErrLimit}, {strings.Repeat("table t -\n", 7), api.ErrLimit}, {head + strings.Repeat("stop\n", 301), api.ErrLimit},
		{"extern e ptr", api.ErrForm}, {"extern e fun", api.ErrForm}, {"extern e none ptr", api.ErrForm}, {"func f ptr\n^0\nstop", api.ErrForm}, {"out f fun\n^0\nstop", api.ErrForm}, {"out f none ptr\n^0\nret", api.ErrForm},
		{head + "add %1 %1\nret %1", api.ErrForm}, {head + "num 1\nret %1", api.ErrForm}, {head + "phi\nret %1", api.ErrForm}, {head + "%2 i64 = phi\nret %1", api.ErrForm}, {head + "via\nret %1", api.ErrForm},
		{head + "ret %1 %1", api.ErrForm}, {head + "%2 i64 = ret %1", api.ErrForm}, {head + "%2 i64 = stop", api.ErrForm}, {head + "%2 i64 = store %1 %1\nret %1", api.ErrForm}, {head + "%0 i64 = num 1\nret %1", api.ErrForm},
		{head + "%2 ptr = room 0\nret %1", api.ErrForm}, {head + "%2 ptr = room 17\nret %1", api.ErrForm}, {head + "%2 ptr = room -1\nret %1", api.ErrForm}, {head + "call f %1 %1 %1 %1 %1 %1\nret %1", api.ErrForm}, {head + "via %1 %1 %1 %1 %1 %1 %1\nret %1", api.ErrForm},
		{"extern E none", api.ErrName}, {"global a_name_that_is_long 1", api.ErrName}, {"table 1 -", api.ErrName}, {"extern extern none\nglobal extern 1", api.ErrName},
		{head, api.ErrFlow}, {head + "%2 i64 = num 1", api.ErrFlow}, {head + "ret %1\nret %1", api.ErrFlow}, {head + "jump ^0", api.ErrFlow}, {head + "jump ^1", api.ErrFlow}, {head + "jump ^9999", api.ErrFlow}, {head + "ret %1\n^1\nret %1", api.ErrFlow},
		{head + "jump ^1\n^1\n%2 i64 = phi ^1 %1 ^0 %1\nbr %2 ^1 ^1", api.ErrFlow},
		{head + "%1 i64 = num 1\nret %1", api.ErrUse}, {head + "%3 i64 = num 1\nret %1", api.ErrUse}, {head + "%9999 i64 = num 1\nret %1", api.ErrUse}, {head + "ret %2", api.ErrUse}, {head + "ret %0", api.ErrUse}, {head + "ret %9999", api.ErrUse}, {head + "%2 i64 = add %2 %1\nret %1", api.ErrUse},
		{head + "ret", api.ErrType}, {head + "%2 i1 = num 2\nret %1", api.ErrType}, {head + "%2 i1 = add %1 %1\nret %1", api.ErrType}, {head + "%2 i64 = fun f\nret %1", api.ErrType}, {head + "call f\nret %1", api.ErrType}, {head + "call f %1\nret %1", api.ErrType},
	} {
		wantNoParse(t, c.s, 0, c.e)
		wantNoParse(t, "# x\n\n"+c.s+" #\n", 0, c.e)
	}
}

// TestOfMuch: texts of about MaxBytes bytes, by whichever of their parts they are long.
func TestOfMuch(t *testing.T) {
	fill := func(begin, again string) string {
		return begin + strings.Repeat(again, (api.MaxBytes-len(begin))/len(again))
	}
	for _, s := range []string{
		fill("", "func f none\n"), fill("extern e none", " i64"), fill("", "global g\n"), fill("table t", " -"), fill("func f none", " i1"), fill(head+"%2 fun = num 1\n", "%2 fun = fun f\n"),
	} {
		wantNoParse(t, s, 0, api.ErrLimit)
	}
	wantNoParse(t, fill("table t", " f"), 8, api.ErrSym)
	wantNoParse(t, fill(head+"call f", " %1"), 0, api.ErrForm)
	wantNoParse(t, fill(head+"%2 i64 = phi", " ^0 %1"), 0, api.ErrFlow)
	wantNoParse(t, fill("", "w "), 0, api.ErrForm)
	wantNoParse(t, fill(head, "call x\n"), len(head)+5, api.ErrSym)
	wantNoParse(t, strings.Repeat("f", api.MaxBytes), 0, api.ErrForm)
	wantNoParse(t, "func "+strings.Repeat("f", api.MaxBytes-10)+" none", 0, api.ErrLimit)
}

// TestParseIsInNewMemory: what is written into a list, or behind its length, is seen nowhere else.
func TestParseIsInNewMemory(t *testing.T) {
	m, _, _ := Parse(sampleText)
	other, _, _ := Parse(sampleText)
	wantApart(t, m, other)
	scrawlOver(reflect.ValueOf(m))
	if !ir.Same(other, sampleModule()) {
		t.Error("P0.4: what is written into a module shows in another one")
	}
	wantParse(t, sampleText, sampleModule())
}

// scrawlOver writes into all lists that hang on v, and into their spare room.
func scrawlOver(v reflect.Value) {
	switch v.Kind() {
	case reflect.Struct:
		for i := range v.NumField() {
			scrawlOver(v.Field(i))
		}
	case reflect.Slice:
		for i := range v.Cap() {
			if i < v.Len() {
				scrawlOver(v.Index(i))
			}
			scrawl(v.Slice(0, v.Cap()).Index(i))
		}
	}
}

// TestNamesAreNewMemory: no name keeps the text that it was read from.
func TestNamesAreNewMemory(t *testing.T) {
	s := strings.Clone(sampleText)
	begin := uintptr(unsafe.Pointer(unsafe.StringData(s)))
	m, _, _ := Parse(s)
	var names []string
	for _, e := range m.Externs {
		names = append(names, e.Name)
	}
	for _, g := range m.Globals {
		names = append(names, g.Name)
	}
	for _, one := range m.Tables {
		names = append(names, one.Name)
	}
	for _, f := range m.Funcs {
		names = append(names, f.Name)
	}
	for _, name := range names {
		if at := uintptr(unsafe.Pointer(unsafe.StringData(name))); at >= begin && at < begin+uintptr(len(s)) {
			t.Errorf("P0.4: %q is kept in what was handed in", name)
		}
	}
}
