package lex

import (
	"regexp"
	"slices"
	"strings"
	"testing"
	"unsafe"

	"planish/api"
)

func line(words ...Word) Line { return Line{Words: words} }

func sameLines(a, b []Line) bool {
	return slices.EqualFunc(a, b, func(x, y Line) bool { return slices.Equal(x.Words, y.Words) })
}

// short keeps a text of a test's message within bounds.
func short(s string) string { return s[:min(len(s), 40)] }

func wantLines(t *testing.T, s string, want ...Line) {
	t.Helper()
	if l, at, e := Lines(s); !sameLines(l, want) || at != 0 || e != api.OK {
		t.Errorf("P7.1: Lines of %q: %v, %d, %d, not %v, 0, 0", short(s), l, at, e, want)
	}
}

func wantNoLines(t *testing.T, s string, wantAt int, want api.Errno) {
	t.Helper()
	if l, at, e := Lines(s); len(l) > 0 || at != wantAt || e != want {
		t.Errorf("P7.1: Lines of %q (%d bytes): %d lines, %d, %d, not none, %d, %d", short(s), len(s), len(l), at, e, wantAt, want)
	}
}

func TestExample(t *testing.T) {
	wantLines(t, "%2 = add # x", line(Word{"%2", 0}, Word{"=", 3}, Word{"add", 5}))
}

func TestLinesWithoutWords(t *testing.T) {
	for _, s := range []string{
		"", "\n", "\n\n\n", " ", "\t", " \t \t\t  ", " \n\t\n \t\n", "#", "##", "# #", "#\n", "#\n#", "#a", "# a b", "#a\n# b\n \t#c\n",
		" #", "\t#\t", "\n#a", "#a\n\n\t\n",
	} {
		wantLines(t, s)
	}
}

func TestWhereLinesEnd(t *testing.T) {
	a := line(Word{"a", 0})
	wantLines(t, "a", a)
	wantLines(t, "a\n", a)
	wantLines(t, "a\n\n", a)
	wantLines(t, "a\nb", a, line(Word{"b", 2}))
	wantLines(t, "a\nb\n", a, line(Word{"b", 2}))
	wantLines(t, "\na", line(Word{"a", 1}))
	wantLines(t, "\n\n\na\n\n\nb", line(Word{"a", 3}), line(Word{"b", 7}))
	wantLines(t, "a \n\t\n b\t\n#c\nd e", a, line(Word{"b", 6}), line(Word{"d", 12}, Word{"e", 14}))
}

func TestRemarks(t *testing.T) {
	a, ab := Word{"a", 0}, Word{"ab", 0}
	wantLines(t, "a#", line(a))
	wantLines(t, "ab#c", line(ab))
	wantLines(t, "ab #c", line(ab))
	wantLines(t, "ab\t# c d", line(ab))
	wantLines(t, "ab#c#d e", line(ab))
	wantLines(t, "ab#c\nd", line(ab), line(Word{"d", 5}))
	wantLines(t, "#c\nd", line(Word{"d", 3}))
	wantLines(t, "#\nd#\n#\ne", line(Word{"d", 2}), line(Word{"e", 7}))
	wantLines(t, " \t #c\n d", line(Word{"d", 7}))
	wantLines(t, "a \"#b\" c", line(a, Word{"\"", 2}))
}

func TestWhatPartsWords(t *testing.T) {
	parts := []string{" ", "\t", "  ", "\t\t", " \t", "\t ", "\t \t  "}
	for _, between := range parts {
		second := 2 + len(between)
		want := []Word{{"ab", 0}, {"c", second}}
		wantLines(t, "ab"+between+"c", line(want...))
		for _, ahead := range parts {
			moved := []Word{{"ab", len(ahead)}, {"c", len(ahead) + second}}
			wantLines(t, ahead+"ab"+between+"c"+ahead, line(moved...))
			wantLines(t, ahead+"ab"+between+"c"+ahead+"\n"+between, line(moved...))
		}
	}
}

// mayBe are the bytes that P7.1 names.
func mayBe(c byte) bool { return c == 9 || c == 10 || 32 <= c && c <= 126 }

// TestEachByte has each of them alone, within a word, within a remark, behind the last line, and in a line of its own.
func TestEachByte(t *testing.T) {
	for n := range 256 {
		c := string([]byte{byte(n)})
		for _, around := range [][2]string{{"", ""}, {"ab", "cd"}, {"ab # c", "d"}, {"#", "\nab"}, {"a b\n", ""}, {"a b\n#\n", "\n"}, {" \t", "\n"}, {"a", ""}, {"", "a"}} {
			s := around[0] + c + around[1]
			if mayBe(byte(n)) {
				wantLines(t, s, plain(s)...)
			} else {
				wantNoLines(t, s, len(around[0]), api.ErrForm)
			}
		}
	}
}

// TestEachByteOfAWord spells out what TestEachByte takes from plain: what a byte within a word makes of it.
func TestEachByteOfAWord(t *testing.T) {
	for n := 32; n < 127; n++ {
		c := string([]byte{byte(n)})
		switch c {
		case " ":
			wantLines(t, "a"+c+"b", line(Word{"a", 0}, Word{"b", 2}))
		case "#":
			wantLines(t, "a"+c+"b", line(Word{"a", 0}))
		default:
			wantLines(t, "a"+c+"b", line(Word{"a" + c + "b", 0}))
			wantLines(t, c, line(Word{c, 0}))
		}
	}
}

func TestTheFirstFaultIsTold(t *testing.T) {
	for _, first := range []string{"\x00", "\x08", "\x0b", "\r", "\x1f", "\x7f", "\x80", "\xff", "ä", "€"} {
		for _, second := range []string{"\x00", "\r", "\x7f", "\xff"} {
			wantNoLines(t, first+second, 0, api.ErrForm)
			wantNoLines(t, "a b\n# c"+first+"\n"+second+"d", 7, api.ErrForm)
			wantNoLines(t, "a"+first+"b\n\n#"+second, 1, api.ErrForm)
		}
	}
	wantNoLines(t, "a b\r\nc\r\n", 3, api.ErrForm)
}

// TestOfMostBytes: a text may have MaxBytes bytes, of whichever kind.
func TestOfMostBytes(t *testing.T) {
	long := strings.Repeat("a", api.MaxBytes)
	wantLines(t, long, line(Word{long, 0}))
	wantLines(t, strings.Repeat("\n", api.MaxBytes))
	wantLines(t, strings.Repeat(" ", api.MaxBytes))
	wantLines(t, strings.Repeat("#", api.MaxBytes))
	wantLines(t, strings.Repeat("\n", api.MaxBytes-1)+"a", line(Word{"a", api.MaxBytes - 1}))
	wantLines(t, "#"+strings.Repeat("a", api.MaxBytes-2)+"\n")
	wantLines(t, long[1:], line(Word{long[1:], 0}))
	wantNoLines(t, long[1:]+"\x00", api.MaxBytes-1, api.ErrForm)
	wantNoLines(t, "\x00"+long[1:], 0, api.ErrForm)
	for _, s := range []string{strings.Repeat("a ", api.MaxBytes/2), strings.Repeat("a\n", api.MaxBytes/2)} {
		l, at, e := Lines(s)
		if !sameLines(l, plain(s)) || at != 0 || e != api.OK {
			t.Errorf("P7.1: Lines of %q, of MaxBytes: %d, %d, %d", short(s), len(l), at, e)
		}
	}
}

func TestOfMoreBytes(t *testing.T) {
	for _, more := range []int{1, 2, api.MaxBytes} {
		long := strings.Repeat("a", api.MaxBytes+more-1)
		wantNoLines(t, long+"a", 0, api.ErrLimit)
		wantNoLines(t, long+"\n", 0, api.ErrLimit)
		wantNoLines(t, long+"\x00", 0, api.ErrLimit)
		wantNoLines(t, "\x00"+long, 0, api.ErrLimit)
		wantNoLines(t, long[:7]+"\xff"+long[7:], 0, api.ErrLimit)
	}
	wantNoLines(t, strings.Repeat("\n", api.MaxBytes+1), 0, api.ErrLimit)
	wantNoLines(t, strings.Repeat("\xff", api.MaxBytes+1), 0, api.ErrLimit)
}

var noParts = regexp.MustCompile(`[^\t ]+`)

// plain are the lines of a text whose bytes may all be, worked out in another way.
func plain(s string) []Line {
	var lines []Line
	begin := 0
	for one := range strings.SplitSeq(s, "\n") {
		said, _, _ := strings.Cut(one, "#")
		var words []Word
		for _, w := range noParts.FindAllStringIndex(said, -1) {
			words = append(words, Word{said[w[0]:w[1]], begin + w[0]})
		}
		if words != nil {
			lines = append(lines, Line{words})
		}
		begin += len(one) + 1
	}
	return lines
}

// TestAllShortTexts has all texts of up to 6 bytes out of 7.
func TestAllShortTexts(t *testing.T) {
	var try func(s string)
	try = func(s string) {
		at := strings.IndexFunc(s, func(c rune) bool { return !mayBe(byte(c)) })
		if at >= 0 {
			wantNoLines(t, s, at, api.ErrForm)
		} else {
			wantLines(t, s, plain(s)...)
		}
		if len(s) == 6 {
			return
		}
		for _, c := range "a%\t\n #\r" {
			try(s + string(c))
		}
	}
	try("")
}

// TestWordsLieWhereTheySay: P7.3.
func TestWordsLieWhereTheySay(t *testing.T) {
	s := "out main i64 i64 # begin\n^0\n\t%2 i64 = num 2\n\n\t%3 i64 = add %1 %2#x\n  ret  %3  "
	l, _, _ := Lines(s)
	if len(l) != 5 {
		t.Fatalf("P7.1: Lines of %q: %d lines, not 5", s, len(l))
	}
	behind := 0
	for _, one := range l {
		for _, w := range one.Words {
			if w.At < behind || !strings.HasPrefix(s[w.At:], w.Text) || w.Text == "" {
				t.Errorf("P7.3: %q, at %d, lies not there, or not behind %d", w.Text, w.At, behind)
			}
			behind = w.At + len(w.Text) + 1
		}
	}
}

// TestListsAreNewMemory: what is written into a list, or behind its length, is seen nowhere else.
func TestListsAreNewMemory(t *testing.T) {
	s := "a b c\nd\n e f # g\n" + strings.Repeat("h i j k l\n", 20)
	want := plain(s)
	for k := range want {
		l, _, _ := Lines(s)
		other, _, _ := Lines(s)
		words := l[k].Words
		words = words[:cap(words)]
		for i := range words {
			words[i] = Word{"x", -1}
		}
		if got := slices.Delete(slices.Clone(l), k, k+1); !sameLines(got, slices.Delete(slices.Clone(want), k, k+1)) {
			t.Errorf("P0.4: line %d's words, written, show in others: %v", k, got)
		}
		all := l[:cap(l)]
		for i := range all {
			all[i] = line(Word{"y", -2})
		}
		again, _, _ := Lines(s)
		if !sameLines(other, want) || !sameLines(again, want) {
			t.Errorf("P0.4: line %d, written, shows in another answer", k)
		}
	}
}

// TestTextsAreNewMemory: no word keeps the text that it was read from.
func TestTextsAreNewMemory(t *testing.T) {
	s := strings.Repeat("ab cde\n", 3)
	begin := uintptr(unsafe.Pointer(unsafe.StringData(s)))
	l, _, _ := Lines(s)
	for _, one := range l {
		for _, w := range one.Words {
			at := uintptr(unsafe.Pointer(unsafe.StringData(w.Text)))
			if at >= begin && at < begin+uintptr(len(s)) {
				t.Errorf("P0.4: %q, at %d, is kept in what was handed in", w.Text, w.At)
			}
		}
	}
}
