package sem

import (
	"fmt"
	"math"
	"strconv"
	"strings"
	"testing"

	"planish/api"
)

// toldCase is a case: a module, what f is run with, and what is told at the end.
type toldCase struct {
	what, source string
	args         []int64
	script       []int64
	want         string
}

func wantAll(t *testing.T, cases []toldCase) {
	t.Helper()
	for _, c := range cases {
		wantTold(t, c.what, c.source, c.args, c.script, c.want)
	}
}

func TestNumbersThatStandThere(t *testing.T) {
	for _, n := range edgeNumbers() {
		s := strconv.FormatInt(n, 10)
		want := "returned " + s + " in 1"
		if n == 0 {
			want = "returned in 1"
		}
		wantTold(t, "Num", "out f i64;^0;%1 i64 = num "+s+";ret %1", nil, nil, want)
		wantTold(t, "Num among others", "out f i64;^0;%1 i64 = num 77;%2 i64 = num "+s+";%3 i64 = num 78;ret %2", nil, nil, want)
		wantTold(t, "a global's cell", "global a 91 92;global g 93 "+s+" 94;out f i64;^0;%1 ptr = glo g;%2 i64 = num 1;%3 ptr = at %1 %2;%4 i64 = load %3;ret %4", nil, nil, strings.Replace(want, "in 1", "in 3", 1))
	}
	wantAll(t, []toldCase{
		{"Num of an I1, 0", "out f i1;^0;%1 i1 = num 0;ret %1", nil, nil, "returned in 1"},
		{"Num of an I1, 1", "out f i1;^0;%1 i1 = num 1;ret %1", nil, nil, "returned 1 in 1"},
	})
}

// Each function and global of several is the one that it says.
func TestFunOfAndGloOf(t *testing.T) {
	source := "global a 10 11;global b 20;global c 30 31 32;out f i64;^0;%%1 ptr = glo %s;%%2 fun = fun %s;%%3 i64 = via %%2;%%4 i64 = load %%1;%%5 i64 = add %%3 %%4;ret %%5;" +
		"func r i64;^0;%%1 i64 = num 100;ret %%1;func s i64;^0;%%1 i64 = num 200;ret %%1;func t i64;^0;%%1 i64 = num 300;ret %%1"
	for g, glo := range []string{"a", "b", "c"} {
		for k, fun := range []string{"r", "s", "t"} {
			wantTold(t, "GloOf and FunOf", fmt.Sprintf(source, glo, fun), nil, nil, fmt.Sprintf("returned %d in 5", (k+1)*100+(g+1)*10))
		}
	}
	wantTold(t, "FunOf of itself", "out f i64 i1;^0;br %1 ^1 ^2;^1;%2 fun = fun f;%3 i1 = num 0;%4 i64 = via %2 %3;ret %4;^2;%5 i64 = num 9;ret %5", []int64{1}, nil, "returned 9 in 5")
	wantTold(t, "GloOf twice is one object", "global g 4;out f i64;^0;%1 ptr = glo g;%2 ptr = glo g;%3 i64 = num 6;store %1 %3;%4 i64 = load %2;ret %4", nil, nil, "returned 6 in 3")
}

// inNumbers works an operator out in Go's own words.
func inNumbers(op int, a, b int64) (int64, bool) {
	bit := func(is bool) int64 {
		if is {
			return 1
		}
		return 0
	}
	switch op {
	case api.Add:
		return a + b, true
	case api.Sub:
		return a - b, true
	case api.Mul:
		return a * b, true
	case api.Div, api.Rem:
		switch {
		case b == 0:
			return 0, false
		case op == api.Div:
			return a / b, true
		}
		return a % b, true
	case api.And:
		return a & b, true
	case api.Or:
		return a | b, true
	case api.Xor:
		return a ^ b, true
	case api.Shl:
		return a << (b & 63), true
	case api.Shr:
		return a >> (b & 63), true
	case api.Eq:
		return bit(a == b), true
	case api.Lt:
		return bit(a < b), true
	}
	return bit(a == 0), true
}

// operatorWords are the words of the operators that take two numbers.
func operatorWords() map[string]int {
	return map[string]int{
		"add": api.Add, "sub": api.Sub, "mul": api.Mul, "div": api.Div, "rem": api.Rem, "and": api.And, "or": api.Or,
		"xor": api.Xor, "shl": api.Shl, "shr": api.Shr, "eq": api.Eq, "lt": api.Lt,
	}
}

func TestOperators(t *testing.T) {
	for word, op := range operatorWords() {
		typ := "i64"
		if op == api.Eq || op == api.Lt {
			typ = "i1"
		}
		m := parsed(t, fmt.Sprintf("out f %s i64 i64;^0;%%3 %s = %s %%1 %%2;ret %%3;out g %s i64 i64;^0;%%3 %s = %s %%2 %%1;ret %%3;out h %s i64;^0;%%2 %s = %s %%1 %%1;ret %%2", typ, typ, word, typ, typ, word, typ, typ, word))
		for _, a := range edgeNumbers() {
			for _, b := range edgeNumbers() {
				for _, r := range []running{{m, "f", []int64{a, b}, nil}, {m, "g", []int64{b, a}, nil}, {m, "h", []int64{a}, nil}} {
					second := b
					if r.name == "h" {
						second = a
					}
					want := api.Run{Kind: api.Trapped, Trap: api.TrapDiv, Steps: 1}
					if v, is := inNumbers(op, a, second); is {
						want = api.Run{Kind: api.Returned, Value: v, Steps: 2}
					}
					if run := r.with(t, plenty); told(run) != told(want) {
						t.Fatalf("P11.2: %s of %d, %d: %s, not %s", word, a, second, told(run), told(want))
					}
				}
			}
		}
	}
}

func TestOperatorsByHand(t *testing.T) {
	two := func(word, typ string) string {
		return "out f " + typ + " i64 i64;^0;%3 " + typ + " = " + word + " %1 %2;ret %3"
	}
	wantAll(t, []toldCase{
		{"Add", two("add", "i64"), []int64{math.MaxInt64, 1}, nil, "returned -9223372036854775808 in 2"},
		{"Sub", two("sub", "i64"), []int64{3, 10}, nil, "returned -7 in 2"},
		{"Mul", two("mul", "i64"), []int64{-3, 10}, nil, "returned -30 in 2"},
		{"Div", two("div", "i64"), []int64{-7, 2}, nil, "returned -3 in 2"},
		{"Div by 0", two("div", "i64"), []int64{-7, 0}, nil, "trapped by 1 in 1"},
		{"Div of 0", two("div", "i64"), []int64{0, -7}, nil, "returned in 2"},
		{"Div of the least", two("div", "i64"), []int64{math.MinInt64, -1}, nil, "returned -9223372036854775808 in 2"},
		{"Rem", two("rem", "i64"), []int64{-7, 4}, nil, "returned -3 in 2"},
		{"Rem by 0", two("rem", "i64"), []int64{5, 0}, nil, "trapped by 1 in 1"},
		{"Rem of the least", two("rem", "i64"), []int64{math.MinInt64, -1}, nil, "returned in 2"},
		{"And", two("and", "i64"), []int64{12, 10}, nil, "returned 8 in 2"},
		{"Or", two("or", "i64"), []int64{12, 10}, nil, "returned 14 in 2"},
		{"Xor", two("xor", "i64"), []int64{12, 10}, nil, "returned 6 in 2"},
		{"Shl", two("shl", "i64"), []int64{1, 65}, nil, "returned 2 in 2"},
		{"Shr", two("shr", "i64"), []int64{-8, -63}, nil, "returned -4 in 2"},
		{"Eq", two("eq", "i1"), []int64{4, 4}, nil, "returned 1 in 2"},
		{"Eq of others", two("eq", "i1"), []int64{4, 5}, nil, "returned in 2"},
		{"Lt", two("lt", "i1"), []int64{-1, 0}, nil, "returned 1 in 2"},
		{"Lt of alike", two("lt", "i1"), []int64{0, 0}, nil, "returned in 2"},
		{"Not of 0", "out f i1 i1;^0;%2 i1 = not %1;ret %2", []int64{0}, nil, "returned 1 in 2"},
		{"Not of 1", "out f i1 i1;^0;%2 i1 = not %1;ret %2", []int64{1}, nil, "returned in 2"},
		{"Not twice", "out f i1 i1;^0;%2 i1 = not %1;%3 i1 = not %2;ret %3", []int64{1}, nil, "returned 1 in 3"},
		{"Not beside another", "out f i1 i1 i1;^0;%3 i1 = not %2;ret %3", []int64{1, 0}, nil, "returned 1 in 2"},
	})
}

func TestSel(t *testing.T) {
	wantAll(t, []toldCase{
		{"Sel of 1", "out f i64 i1 i64 i64;^0;%4 i64 = sel %1 %2 %3;ret %4", []int64{1, 7, 8}, nil, "returned 7 in 2"},
		{"Sel of 0", "out f i64 i1 i64 i64;^0;%4 i64 = sel %1 %2 %3;ret %4", []int64{0, 7, 8}, nil, "returned 8 in 2"},
		{"Sel of I1, 1", "out f i1 i1 i1 i1;^0;%4 i1 = sel %1 %2 %3;ret %4", []int64{1, 0, 1}, nil, "returned in 2"},
		{"Sel of I1, 0", "out f i1 i1 i1 i1;^0;%4 i1 = sel %1 %2 %3;ret %4", []int64{0, 0, 1}, nil, "returned 1 in 2"},
		{"Sel of itself", "out f i1 i1;^0;%2 i1 = sel %1 %1 %1;ret %2", []int64{1}, nil, "returned 1 in 2"},
		{"Sel of pointers, 1", "global g 5;global h 6;out f i64 i1;^0;%2 ptr = glo g;%3 ptr = glo h;%4 ptr = sel %1 %2 %3;%5 i64 = load %4;ret %5", []int64{1}, nil, "returned 5 in 3"},
		{"Sel of pointers, 0", "global g 5;global h 6;out f i64 i1;^0;%2 ptr = glo g;%3 ptr = glo h;%4 ptr = sel %1 %2 %3;%5 i64 = load %4;ret %5", []int64{0}, nil, "returned 6 in 3"},
		{"Sel of offsets", "global g 5 6;out f i64 i1;^0;%2 ptr = glo g;%3 i64 = num 1;%4 ptr = at %2 %3;%5 ptr = sel %1 %4 %2;%6 i64 = load %5;ret %6", []int64{1}, nil, "returned 6 in 4"},
		{"Sel of functions, 1", "out f i64 i1;^0;%2 fun = fun g;%3 fun = fun h;%4 fun = sel %1 %2 %3;%5 i64 = via %4;ret %5;func g i64;^0;%1 i64 = num 5;ret %1;func h i64;^0;%1 i64 = num 6;ret %1", []int64{1}, nil, "returned 5 in 4"},
		{"Sel of functions, 0", "out f i64 i1;^0;%2 fun = fun g;%3 fun = fun h;%4 fun = sel %1 %2 %3;%5 i64 = via %4;ret %5;func g i64;^0;%1 i64 = num 5;ret %1;func h i64;^0;%1 i64 = num 6;ret %1", []int64{0}, nil, "returned 6 in 4"},
	})
}

func TestRooms(t *testing.T) {
	wantAll(t, []toldCase{
		{"a Room is noughts", "out f i64;^0;%1 ptr = room 1;%2 i64 = load %1;ret %2", nil, nil, "returned in 3"},
		{"two Rooms", "out f i64 i64;^0;%2 ptr = room 1;%3 ptr = room 1;store %2 %1;%4 i64 = load %3;%5 i64 = load %2;%6 i64 = shl %4 %1;%7 i64 = add %5 %6;ret %7", []int64{3}, nil, "returned 3 in 8"},
		{"a Room is not a global", "global g 4;out f i64;^0;%1 ptr = room 1;%2 ptr = glo g;%3 i64 = num 9;store %1 %3;%4 i64 = load %2;ret %4", nil, nil, "returned 4 in 4"},
		// Each time round the room is another one: what was stored to the last one is not in it, and is in the last one still.
		{"a Room done twice", "out f i64;^0;%1 ptr = room 1;%2 i64 = num 3;jump ^1;^1;%3 i64 = phi ^0 %2 ^1 %8;%4 ptr = phi ^0 %1 ^1 %5;%5 ptr = room 1;%6 i64 = load %5;store %5 %3;%7 i64 = num 1;%8 i64 = sub %3 %7;%9 i64 = load %4;%10 i64 = add %9 %6;%11 i1 = eq %8 %7;br %11 ^2 ^1;^2;ret %10", nil, nil, "returned 3 in 19"},
		{"a Room in each of two calls", "out f i64;^0;%1 i64 = call g;%2 i64 = call g;%3 i64 = add %1 %2;ret %3;func g i64;^0;%1 ptr = room 2;%2 i64 = load %1;%3 i64 = num 5;store %1 %3;ret %2", nil, nil, "returned in 12"},
	})
	for size := 1; size <= api.MaxCells; size++ {
		room := fmt.Sprintf("out f i64 i64;^0;%%2 ptr = room %d;%%3 ptr = at %%2 %%1;%%4 i64 = load %%3;store %%3 %%1;%%5 i64 = load %%3;%%6 i64 = add %%5 %%4;ret %%6", size)
		for off := int64(-2); off <= int64(size)+2; off++ {
			want := "trapped by 2 in 3"
			if off == 0 {
				want = "returned in 7"
			} else if off > 0 && off < int64(size) {
				want = fmt.Sprintf("returned %d in 7", off)
			}
			wantTold(t, "a Room of "+strconv.Itoa(size), room, []int64{off}, nil, want)
		}
	}
}

func TestAtWrapsAround(t *testing.T) {
	// The pointer is moved three times, and then what it points to is loaded.
	source := "global g 50 51 52;out f i64 i64 i64 i64;^0;%4 ptr = glo g;%5 ptr = at %4 %1;%6 ptr = at %5 %2;%7 ptr = at %6 %3;%8 i64 = load %7;ret %8"
	for _, c := range []struct {
		a, b, c int64
		want    string
	}{
		{0, 0, 0, "returned 50 in 5"}, {1, 1, 0, "returned 52 in 5"}, {1, 1, 1, "trapped by 2 in 4"}, {-1, 0, 0, "trapped by 2 in 4"},
		{-1, 1, 0, "returned 50 in 5"}, {-1, 3, 0, "returned 52 in 5"}, {5, -4, 0, "returned 51 in 5"}, {100, 1, -100, "returned 51 in 5"},
		{math.MaxInt64, math.MaxInt64, 2, "returned 50 in 5"}, {math.MaxInt64, math.MaxInt64, 3, "returned 51 in 5"}, {math.MaxInt64, math.MaxInt64, 4, "returned 52 in 5"},
		{math.MaxInt64, math.MaxInt64, 5, "trapped by 2 in 4"}, {math.MaxInt64, math.MaxInt64, 1, "trapped by 2 in 4"},
		{math.MinInt64, math.MinInt64, 0, "returned 50 in 5"}, {math.MinInt64, math.MinInt64, 2, "returned 52 in 5"}, {math.MinInt64, 2, math.MinInt64, "returned 52 in 5"},
		{math.MaxInt64, 1, math.MinInt64, "returned 50 in 5"}, {math.MinInt64, -1, math.MinInt64, "trapped by 2 in 4"}, {math.MinInt64, -1, -math.MaxInt64, "returned 50 in 5"},
		{math.MaxInt64, 0, 0, "trapped by 2 in 4"}, {math.MinInt64, 0, 0, "trapped by 2 in 4"}, {1 << 32, 0, 0, "trapped by 2 in 4"}, {-1 << 32, 0, 0, "trapped by 2 in 4"},
		{1 << 62, 1 << 62, 1 << 62, "trapped by 2 in 4"},
	} {
		wantTold(t, "At", source, []int64{c.a, c.b, c.c}, nil, c.want)
	}
	wantAll(t, []toldCase{
		{"At leaves what it moves", "global g 50 51;out f i64;^0;%1 ptr = glo g;%2 i64 = num 1;%3 ptr = at %1 %2;%4 i64 = load %1;ret %4", nil, nil, "returned 50 in 3"},
		{"At beyond alone is no trap", "global g 50;out f i64 i64;^0;%2 ptr = glo g;%3 ptr = at %2 %1;ret %1", []int64{math.MaxInt64}, nil, "returned 9223372036854775807 in 2"},
	})
}

// Each place of objects that stand beside others, stored to and loaded from, at its ends and beyond.
func TestLoadAndStore(t *testing.T) {
	module := "global a 11;global g %s;global b 12 13;out f i64 i64;^0;%%2 ptr = glo g;%%3 ptr = at %%2 %%1;%%4 i64 = load %%3;ret %%4;" +
		"out s i64 i64 i64;^0;%%3 ptr = glo g;%%4 ptr = at %%3 %%1;store %%4 %%2;%%5 i64 = load %%4;ret %%5;" +
		"out n i64 i64 i64;^0;%%3 ptr = glo g;%%4 ptr = at %%3 %%1;store %%4 %%2;%%5 ptr = glo a;%%6 ptr = glo b;%%7 i64 = load %%5;%%8 i64 = load %%6;%%9 i64 = num 1;%%10 ptr = at %%6 %%9;%%11 i64 = load %%10;%%12 i64 = add %%7 %%8;%%13 i64 = add %%12 %%11;ret %%13"
	for size := 1; size <= api.MaxCells; size++ {
		cells := ""
		for k := range size {
			cells += " " + strconv.Itoa(70+k)
		}
		m := parsed(t, fmt.Sprintf(module, strings.TrimSpace(cells)))
		places := []int64{-2, -1, int64(size), int64(size) + 1, 1 << 32, 1<<32 + 1, -1 << 32, math.MinInt64, math.MaxInt64}
		for off := range int64(size) {
			places = append(places, off)
		}
		for _, off := range places {
			wantLoad, wantStore, wantOthers := "trapped by 2 in 2", "trapped by 2 in 2", "trapped by 2 in 2"
			if off >= 0 && off < int64(size) {
				wantLoad, wantStore, wantOthers = fmt.Sprintf("returned %d in 3", 70+off), "returned -5 in 4", "returned 36 in 9"
			}
			for _, c := range []struct {
				r    running
				want string
			}{
				{running{m, "f", []int64{off}, nil}, wantLoad}, {running{m, "s", []int64{off, -5}, nil}, wantStore}, {running{m, "n", []int64{off, -5}, nil}, wantOthers},
			} {
				if run := c.r.with(t, plenty); told(run) != c.want {
					t.Errorf("P11.2: %s at %d of %d cells: %s, not %s", c.r.name, off, size, told(run), c.want)
				}
				wantSteps(t, "Load and Store", c.r, 10)
			}
		}
	}
}

func TestWhatOneCallStoresAnotherLoads(t *testing.T) {
	wantAll(t, []toldCase{
		{"by a global", "global g 1 2;out f i64 i64;^0;call put %1;%2 i64 = call get;ret %2;func put none i64;^0;%2 ptr = glo g;store %2 %1;ret;func get i64;^0;%1 ptr = glo g;%2 i64 = load %1;ret %2", []int64{33}, nil, "returned 33 in 7"},
		{"by a room handed in", "out f i64 i64;^0;%2 ptr = room 2;%3 i64 = num 1;%4 ptr = at %2 %3;call put %4 %1;%5 i64 = call get %2;ret %5;func put none ptr i64;^0;store %1 %2;ret;func get i64 ptr;^0;%2 i64 = num 1;%3 ptr = at %1 %2;%4 i64 = load %3;ret %4", []int64{33}, nil, "returned 33 in 10"},
		{"through two calls", "out f i64 i64;^0;%2 ptr = room 1;call p %2 %1;%3 i64 = load %2;ret %3;func p none ptr i64;^0;call q %1 %2;ret;func q none ptr i64;^0;%3 i64 = add %2 %2;store %1 %3;ret", []int64{21}, nil, "returned 42 in 9"},
		{"one of two rooms", "out f i64 i64;^0;%2 ptr = room 1;%3 ptr = room 1;call put %3 %1;%4 i64 = load %2;%5 i64 = load %3;%6 i64 = sub %5 %4;ret %6;func put none ptr i64;^0;store %1 %2;ret", []int64{8}, nil, "returned 8 in 9"},
		{"an offset beyond, handed in", "out f i64 i64;^0;%2 ptr = room 1;%3 ptr = at %2 %1;call put %3 %1;ret %1;func put none ptr i64;^0;store %1 %2;ret", []int64{1}, nil, "trapped by 2 in 4"},
		{"stored twice", "global g 1;out f i64 i64;^0;%2 ptr = glo g;store %2 %1;%3 i64 = add %1 %1;store %2 %3;%4 i64 = load %2;ret %4", []int64{4}, nil, "returned 8 in 5"},
		{"loaded ahead of it", "global g 1;out f i64 i64;^0;%2 ptr = glo g;%3 i64 = load %2;store %2 %1;ret %3", []int64{4}, nil, "returned 1 in 3"},
	})
	// The globals are a machine's own: what one run stores another one does not load.
	m := parsed(t, "global g 5;out f i64;^0;%1 ptr = glo g;%2 i64 = load %1;%3 i64 = num 1;%4 i64 = add %2 %3;store %1 %4;ret %2")
	r := running{m, "f", nil, nil}
	x, y := r.started(t), r.started(t)
	for x.Step() {
	}
	for y.Step() {
	}
	for _, run := range []api.Run{x.Told(), y.Told(), r.with(t, plenty)} {
		if told(run) != "returned 5 in 4" {
			t.Errorf("P11.1: a run behind others of the same module: %s", told(run))
		}
	}
}

func TestTab(t *testing.T) {
	functions := ";func a i64;^0;%1 i64 = num 100;ret %1;func b i64;^0;%1 i64 = num 200;ret %1;func c i64;^0;%1 i64 = num 300;ret %1"
	source := "table s a;table t b - a c -;table u - b;out f i64 i64;^0;%2 fun = tab t %1;%3 i64 = via %2;ret %3" + functions
	for at, want := range map[int64]string{
		0: "returned 200 in 4", 1: "trapped by 3 in 1", 2: "returned 100 in 4", 3: "returned 300 in 4", 4: "trapped by 3 in 1", 5: "trapped by 3 in 1",
		6: "trapped by 3 in 1", -1: "trapped by 3 in 1", -2: "trapped by 3 in 1", -5: "trapped by 3 in 1", 1 << 32: "trapped by 3 in 1", 1<<32 + 2: "trapped by 3 in 1",
		-1 << 32: "trapped by 3 in 1", math.MinInt64: "trapped by 3 in 1", math.MaxInt64: "trapped by 3 in 1",
	} {
		wantTold(t, "Tab", source, []int64{at}, nil, want)
	}
	for sym, want := range map[string]string{"s": "returned 100 in 4", "t": "returned 200 in 4", "u": "trapped by 3 in 1"} {
		wantTold(t, "Tab of table "+sym, strings.Replace(source, "tab t", "tab "+sym, 1), []int64{0}, nil, want)
	}
	// A Tab that traps does so even if what it gives is not taken; one that does not is no call.
	wantAll(t, []toldCase{
		{"Tab not taken", "table t f -;out f i64 i64;^0;%2 fun = tab t %1;ret %1", []int64{1}, nil, "trapped by 3 in 1"},
		{"Tab not called", "table t f -;out f i64 i64;^0;%2 fun = tab t %1;ret %1", []int64{0}, nil, "returned in 2"},
	})
	entries := make([]string, api.MaxEntries)
	for k := range entries {
		entries[k] = []string{"a", "b", "c", "-"}[k%4]
	}
	long := "table t " + strings.Join(entries, " ") + ";out f i64 i64;^0;%2 fun = tab t %1;%3 i64 = via %2;ret %3" + functions
	for at := range api.MaxEntries + 3 {
		want := "trapped by 3 in 1"
		if at < api.MaxEntries && at%4 < 3 {
			want = fmt.Sprintf("returned %d in 4", 100*(at%4+1))
		}
		wantTold(t, "Tab of many", long, []int64{int64(at)}, nil, want)
	}
}
