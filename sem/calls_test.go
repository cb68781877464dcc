package sem

import (
	"fmt"
	"math"
	"strings"
	"testing"

	"planish/api"
)

func TestCalls(t *testing.T) {
	wantAll(t, []toldCase{
		{"a Call with a Result", "out f i64 i64;^0;%2 i64 = call g %1;ret %2;func g i64 i64;^0;%2 i64 = add %1 %1;ret %2", []int64{4}, nil, "returned 8 in 4"},
		{"a Call without one", "out f i64 i64;^0;call g %1;ret %1;func g none i64;^0;ret", []int64{4}, nil, "returned 4 in 3"},
		{"a Call of a function ahead", "func g i64 i64;^0;%2 i64 = add %1 %1;ret %2;out f i64 i64;^0;%2 i64 = call g %1;ret %2", []int64{4}, nil, "returned 8 in 4"},
		{"a Call of one that is Out", "out f i64 i64;^0;%2 i64 = call g %1;ret %2;out g i64 i64;^0;%2 i64 = add %1 %1;ret %2", []int64{4}, nil, "returned 8 in 4"},
		{"the order of Args", "out f i64 i64 i64;^0;%3 i64 = call g %2 %1;ret %3;func g i64 i64 i64;^0;%3 i64 = sub %1 %2;ret %3", []int64{4, 10}, nil, "returned 6 in 4"},
		{"one of the Args twice", "out f i64 i64 i64;^0;%3 i64 = call g %2 %2;ret %3;func g i64 i64 i64;^0;%3 i64 = add %1 %2;ret %3", []int64{4, 10}, nil, "returned 20 in 4"},
		{"parameters of each type", "global g 1 2;out f i64 i64 i1;^0;%3 ptr = glo g;%4 i64 = num 1;%5 ptr = at %3 %4;%6 fun = fun h;%7 i64 = call p %5 %6 %2 %1 %1;ret %7;" +
			"func p i64 ptr fun i1 i64 i64;^0;%6 i64 = load %1;%7 i64 = via %2 %6;%8 i64 = sel %3 %7 %4;%9 i64 = add %8 %5;ret %9;func h i64 i64;^0;%2 i64 = num 100;%3 i64 = mul %1 %2;ret %3", []int64{7, 1}, nil, "returned 207 in 10"},
		{"its values are its own", "out f i64 i64;^0;%2 i64 = add %1 %1;%3 i64 = call g %1;%4 i64 = add %2 %3;ret %4;func g i64 i64;^0;%2 i64 = num 1000;%3 i64 = mul %1 %2;%4 i64 = add %3 %2;%5 i64 = add %4 %1;ret %5", []int64{3}, nil, "returned 4009 in 8"},
		{"a Call that is not taken", "out f i64 i64;^0;%2 i64 = call g %1;ret %1;func g i64 i64;^0;%2 i64 = add %1 %1;ret %2", []int64{4}, nil, "returned 4 in 4"},
		{"an answer of an I1", "out f i64 i64;^0;%2 i1 = call g %1;br %2 ^1 ^2;^1;ret %1;^2;%3 i64 = num -1;ret %3;func g i1 i64;^0;%2 i1 = lt %1 %1;ret %2", []int64{4}, nil, "returned -1 in 5"},
		{"an answer that is a function", "out f i64;^0;%1 fun = call g;%2 i64 = via %1;ret %2;func g fun;^0;%1 fun = fun h;ret %1;func h i64;^0;%1 i64 = num 9;ret %1", nil, nil, "returned 9 in 5"},
		{"goes on in the middle of a block", "out f i64 i64;^0;jump ^1;^1;%2 i64 = add %1 %1;%3 i64 = call g %2;%4 i64 = call g %3;%5 i64 = add %4 %1;jump ^2;^2;ret %5;func g i64 i64;^0;jump ^1;^1;%2 i64 = mul %1 %1;ret %2", []int64{2}, nil, "returned 258 in 13"},
		{"calls one behind the other", "extern e none i64;out f none i64;^0;call g %1;ext e %1;call g %1;ret;func g none i64;^0;%2 i64 = num 5;ext e %2;ret", []int64{2}, nil, "returned in 8, e[5] 0, e[2] 0, e[5] 0"},
		{"a trap in a Call", "out f i64 i64;^0;%2 i64 = call g %1;ret %1;func g i64 i64;^0;%2 i64 = div %1 %1;ret %2", []int64{0}, nil, "trapped by 1 in 2"},
		{"a Stop in a Call", "out f i64 i64;^0;%2 i64 = call g;ret %1;func g i64;^0;stop", []int64{3}, nil, "trapped by 5 in 2"},
		// 1 times 2 times .. n.
		{"itself", "out f i64 i64;^0;%2 i64 = num 1;%3 i1 = lt %2 %1;br %3 ^1 ^2;^1;%4 i64 = sub %1 %2;%5 i64 = call f %4;%6 i64 = mul %5 %1;ret %6;^2;ret %2", []int64{5}, nil, "returned 120 in 27"},
		{"two that call each other", "out f i64 i64;^0;%2 i64 = num 0;%3 i1 = eq %1 %2;br %3 ^1 ^2;^1;%4 i64 = num 10;ret %4;^2;%5 i64 = num 1;%6 i64 = sub %1 %5;%7 i64 = call g %6;ret %7;" +
			"func g i64 i64;^0;%2 i64 = num 0;%3 i1 = eq %1 %2;br %3 ^1 ^2;^1;%4 i64 = num 20;ret %4;^2;%5 i64 = num 1;%6 i64 = sub %1 %5;%7 i64 = call f %6;ret %7", []int64{7}, nil, "returned 20 in 38"},
	})
}

// Each parameter is the one of the Args that stands in its place.
func TestParametersInTheirPlaces(t *testing.T) {
	for count := 1; count <= api.MaxParams; count++ {
		for k := range count {
			params, args := strings.Repeat(" i64", count), spread(" %%%d", count)
			callee := fmt.Sprintf(";func g i64%s;^0;ret %%%d", params, k+1)
			call := fmt.Sprintf("out f i64%s;^0;%%%d i64 = call g%s;ret %%%d", params, count+1, args, count+1)
			via := fmt.Sprintf("out f i64%s;^0;%%%d fun = fun g;%%%d i64 = via %%%d%s;ret %%%d", params, count+1, count+2, count+1, args, count+2)
			numbers := []int64{-3, 1 << 40, 4, math.MaxInt64, math.MinInt64}[:count]
			want := fmt.Sprintf("returned %d in 3", numbers[k])
			wantTold(t, "a parameter of a Call", call+callee, numbers, nil, want)
			wantTold(t, "a parameter of a Via", via+callee, numbers, nil, want)
		}
	}
}

// spread writes the numbers from 1 to count, each by the layout.
func spread(layout string, count int) string {
	s := ""
	for k := range count {
		s += fmt.Sprintf(layout, k+1)
	}
	return s
}

// What a Via says it gives, and what the function gives: each with each.
func TestViaOfResults(t *testing.T) {
	says := []string{"via %2", "%3 i64 = via %2", "%3 i1 = via %2", "%3 fun = via %2"}
	gives := []string{
		"func g none;^0;ret", "func g i64;^0;%1 i64 = num 4;ret %1", "func g i1;^0;%1 i1 = num 1;ret %1", "func g fun;^0;%1 fun = fun f;ret %1",
	}
	for k, via := range says {
		for l, function := range gives {
			want := "trapped by 4 in 1"
			if k == l {
				want = "returned 77 in 3"
			}
			wantTold(t, via+" of "+function, "out f i64 i64;^0;%2 fun = fun g;"+via+";ret %1;"+function, []int64{77}, nil, want)
		}
	}
	wantAll(t, []toldCase{
		{"what a Via gives, I64", "out f i64;^0;%1 fun = fun g;%2 i64 = via %1;ret %2;func g i64;^0;%1 i64 = num 4;ret %1", nil, nil, "returned 4 in 3"},
		{"what a Via gives, I1", "out f i1;^0;%1 fun = fun g;%2 i1 = via %1;ret %2;func g i1;^0;%1 i1 = num 1;ret %1", nil, nil, "returned 1 in 3"},
		{"what a Via gives, Fun", "out f i64;^0;%1 fun = fun g;%2 fun = via %1;%3 i64 = via %2;ret %3;func g fun;^0;%1 fun = fun h;ret %1;func h i64;^0;%1 i64 = num 4;ret %1", nil, nil, "returned 4 in 5"},
		{"Via of itself", "out f i64;^0;%1 fun = fun g;%2 i64 = via %1 %1;ret %2;func g i64 fun;^0;%2 i64 = num 4;ret %2", nil, nil, "returned 4 in 3"},
		{"Via of one that is Out", "out f i64;^0;%1 fun = fun g;%2 i64 = via %1;ret %2;out g i64;^0;%1 i64 = num 4;ret %1", nil, nil, "returned 4 in 3"},
	})
}

// The types of what a Via hands in, and of a function's Params: each list of up to two with each.
func TestViaOfParams(t *testing.T) {
	types, values := []string{"i64", "i1", "ptr", "fun"}, []string{"%1", "%2", "%3", "%4"}
	var params, args []string
	add := func(list ...int) {
		p, a := "", ""
		for _, k := range list {
			p, a = p+" "+types[k], a+" "+values[k]
		}
		params, args = append(params, p), append(args, a)
	}
	add()
	for k := range types {
		add(k)
		for l := range types {
			add(k, l)
		}
	}
	add(0, 1, 2, 3, 0)
	add(0, 1, 2, 3, 1)
	add(3, 1, 2, 3, 0)
	add(0, 1, 2, 3)
	for k := range params {
		for l := range args {
			want := "trapped by 4 in 2"
			if k == l {
				want = "returned 77 in 4"
			}
			source := "out f i64 i64 i1;^0;%3 ptr = room 1;%4 fun = fun f;%5 fun = fun g;via %5" + args[l] + ";ret %1;func g none" + params[k] + ";^0;ret"
			wantTold(t, "Params"+params[k]+" and Args"+args[l], source, []int64{77, 1}, nil, want)
		}
	}
}

// down is a function that calls itself as often as its parameter says, and at the bottom does what is given, whose
// values begin with 7; and another one, g.
func down(again, bottom string) string {
	return "out f i64 i64;^0;%2 i64 = num 1;%3 i1 = lt %1 %2;br %3 ^2 ^1;^1;%4 fun = fun f;%5 i64 = sub %1 %2;%6 i64 = " + again +
		";ret %6;^2;" + bottom + ";ret %1;func g none;^0;ret"
}

func TestMaxDepth(t *testing.T) {
	for _, again := range []string{"call f %5", "via %4 %5"} {
		for n := range int64(26) {
			want := fmt.Sprintf("returned 9 in %d", 5*n+4)
			if n >= api.MaxDepth {
				want = fmt.Sprintf("trapped by 6 in %d", 4*api.MaxDepth)
			}
			source := strings.Replace(down(again, "%7 i64 = num 9;%8 i64 = add %7 %1"), "ret %1;", "ret %8;", 1)
			wantTold(t, "down by "+again, source, []int64{n}, nil, want)
		}
	}
}

// What is done at the bottom, with one frame less than may be, and with as many.
func TestAtMaxDepth(t *testing.T) {
	const most = api.MaxDepth - 1
	for _, c := range []struct {
		what, bottom, at, below string
	}{
		{"a Call", "call g", "trapped by 6 in 79", "returned in 95"},
		{"a Via", "%7 fun = fun g;via %7", "trapped by 6 in 79", "returned in 95"},
		{"a Via with an Arg that is none of its", "%7 fun = fun g;via %7 %1", "trapped by 4 in 79", "trapped by 4 in 75"},
		{"a Via without an Arg", "%7 fun = fun f;%8 i64 = via %7", "trapped by 4 in 79", "trapped by 4 in 75"},
		{"a Via with an Arg of another type", "%7 fun = fun f;%8 i64 = via %7 %3", "trapped by 4 in 79", "trapped by 4 in 75"},
		{"a Via that says it gives something", "%7 fun = fun g;%8 i64 = via %7", "trapped by 4 in 79", "trapped by 4 in 75"},
		{"a Via that says it gives nothing", "%7 fun = fun f;via %7 %1", "trapped by 4 in 79", "trapped by 4 in 75"},
		{"a trap ahead of it", "%7 i64 = div %2 %1;call g", "trapped by 1 in 79", "trapped by 1 in 75"},
		{"a room", "%7 ptr = room 2;store %7 %2", "returned in 100", "returned in 95"},
	} {
		wantTold(t, c.what+" in the last frame", down("call f %5", c.bottom), []int64{most}, nil, c.at)
		wantTold(t, c.what+" in the last frame but one", down("via %4 %5", c.bottom), []int64{most - 1}, nil, c.below)
	}
}

// Frames that are gone do not count.
func TestMaxDepthAgain(t *testing.T) {
	again := "func f i64 i64;^0;%2 i64 = num 1;%3 i1 = lt %1 %2;br %3 ^2 ^1;^1;%4 i64 = sub %1 %2;%5 i64 = call f %4;ret %5;^2;ret %1;out g i64 i64;^0;%2 i64 = call f %1;%3 i64 = call f %1;%4 i64 = call f %1;ret %4"
	again = strings.NewReplacer("func f", "func h", "call f", "call h", "out g", "out f").Replace(again)
	wantTold(t, "as deep as may be, three times", again, []int64{api.MaxDepth - 2}, nil, "returned in 283")
	wantTold(t, "one deeper", again, []int64{api.MaxDepth - 1}, nil, "trapped by 6 in 77")
	wantAll(t, []toldCase{
		{"a function that calls itself for ever", "out f none;^0;call f;ret", nil, nil, "trapped by 6 in 20"},
		{"two that do", "out f none;^0;call g;ret;func g none;^0;call f;ret", nil, nil, "trapped by 6 in 20"},
		{"one that does by Via", "out f none;^0;%1 fun = fun f;via %1;ret", nil, nil, "trapped by 6 in 20"},
		{"one that does through a table", "table t - f;out f none;^0;%1 i64 = num 1;%2 fun = tab t %1;via %2;ret", nil, nil, "trapped by 6 in 40"},
		{"a call of one that does", "out f none;^0;call g;ret;func g none;^0;call g;ret", nil, nil, "trapped by 6 in 20"},
		{"as many calls as there is fuel for", "extern e i1;out f i64;^0;%1 i64 = num 0;jump ^1;^1;%2 i64 = phi ^0 %1 ^1 %3;%3 i64 = call g %2;%4 i1 = ext e;br %4 ^2 ^1;^2;ret %3;func g i64 i64;^0;%2 i64 = num 1;%3 i64 = add %1 %2;ret %3",
			nil, append(make([]int64, 40), 1), "returned 41 in 207" + strings.Repeat(", e[] 0", 40) + ", e[] 1"},
	})
}

func TestExt(t *testing.T) {
	all := "extern a i64 i64 i1;extern b i1;extern c none i64;extern d i64;extern p i1 i1 i64 i1 i64 i1;"
	wantAll(t, []toldCase{
		{"with a Result", all + "out f i64;^0;%1 i64 = ext d;ret %1", nil, []int64{-7}, "returned -7 in 2, d[] -7"},
		{"without one", all + "out f none i64;^0;ext c %1;ret", []int64{8}, []int64{-7}, "returned in 2, c[8] 0"},
		{"one that is not taken", all + "out f none;^0;%1 i64 = ext d;ret", nil, []int64{-7}, "returned in 2, d[] -7"},
		{"with all Args", all + "out f i1 i64 i64 i1;^0;%4 i1 = num 0;%5 i1 = ext p %4 %2 %3 %1 %4;ret %5", []int64{5, -6, 1}, []int64{3}, "returned 1 in 2, p[0 -6 1 5 0] 1"},
		{"one that is there twice", all + "out f i64;^0;%1 i64 = ext d;%2 i64 = ext d;%3 i64 = sub %1 %2;ret %3", nil, []int64{10, 4}, "returned 6 in 4, d[] 10, d[] 4"},
		{"such as take and such as do not", all + "out f i64 i64;^0;ext c %1;%2 i64 = ext d;ext c %2;%3 i1 = ext b;%4 i64 = ext a %2 %3;ext c %4;%5 i64 = ext d;ret %5", []int64{1}, []int64{20, 31, 42, 53, 64},
			"returned 53 in 8, c[1] 0, d[] 20, c[20] 0, b[] 1, a[20 1] 42, c[42] 0, d[] 53"},
		{"the script at its end", all + "out f i64;^0;%1 i64 = ext d;%2 i64 = ext d;%3 i64 = ext d;%4 i1 = ext b;%5 i64 = ext a %3 %4;%6 i64 = add %1 %5;ret %6", nil, []int64{6, 7}, "returned 6 in 7, d[] 6, d[] 7, d[] 0, b[] 0, a[0 0] 0"},
		{"no script", all + "out f i64;^0;%1 i64 = ext d;ret %1", nil, nil, "returned in 2, d[] 0"},
		{"an empty script", all + "out f i64;^0;%1 i64 = ext d;ret %1", nil, []int64{}, "returned in 2, d[] 0"},
		{"in a call and behind it", all + "out f i64;^0;%1 i64 = ext d;%2 i64 = call g %1;%3 i64 = ext d;%4 i64 = sub %2 %3;ret %4;func g i64 i64;^0;%2 i64 = ext d;ext c %1;%3 i64 = sub %2 %1;ret %3", nil, []int64{1, 20, 300},
			"returned -281 in 9, d[] 1, d[] 20, c[1] 0, d[] 300"},
		{"ahead of a trap", all + "out f i64 i64;^0;%2 i64 = ext d;%3 i64 = div %1 %2;%4 i64 = ext d;ret %4", []int64{4}, []int64{0, 5}, "trapped by 1 in 2, d[] 0"},
		{"what a round takes", all + "out f i64;^0;jump ^1;^1;%1 i64 = ext d;%2 i1 = ext b;br %2 ^2 ^1;^2;ret %1", nil, []int64{1, 2, 3, 4, 5, 7, 9}, "returned 5 in 11, d[] 1, b[] 0, d[] 3, b[] 0, d[] 5, b[] 1"},
	})
	// Of an I1 it is whether the number is odd, also below 0; of an I64 it is the number.
	for _, n := range edgeNumbers() {
		bit, number := "returned in 2, b[] 0", fmt.Sprintf("returned %d in 2, d[] %d", n, n)
		if n%2 != 0 {
			bit = "returned 1 in 2, b[] 1"
		}
		if n == 0 {
			number = "returned in 2, d[] 0"
		}
		wantTold(t, "an I1", all+"out f i1;^0;%1 i1 = ext b;ret %1", nil, []int64{n}, bit)
		wantTold(t, "an I64", all+"out f i64;^0;%1 i64 = ext d;ret %1", nil, []int64{n}, number)
	}
}

// Each extern of several is called by its own name, and answers in its own type.
func TestExternsInTheirPlaces(t *testing.T) {
	for k := range api.MaxExterns {
		name, want := fmt.Sprintf("e%d", k), fmt.Sprintf("returned 7 in 2, e%d[] 7", k)
		typ := "i64"
		switch k % 3 {
		case 1:
			typ, want = "i1", fmt.Sprintf("returned 1 in 2, e%d[] 1", k)
		case 2:
			typ, want = "none", fmt.Sprintf("returned in 2, e%d[] 0", k)
		}
		source := ""
		for l := range api.MaxExterns {
			source += fmt.Sprintf("extern e%d %s;", l, []string{"i64", "i1", "none"}[l%3])
		}
		if typ == "none" {
			source += "out f none;^0;ext " + name + ";ret"
		} else {
			source += "out f " + typ + ";^0;%1 " + typ + " = ext " + name + ";ret %1"
		}
		wantTold(t, "an extern of several", source, nil, []int64{7}, want)
	}
}
