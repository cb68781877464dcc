package sem

import (
	"fmt"
	"strings"
	"testing"
)

// Each of three blocks as the first and as the second one of a Br.
func TestBranches(t *testing.T) {
	for a := 2; a <= 4; a++ {
		for b := 2; b <= 4; b++ {
			if a == b {
				continue
			}
			source := fmt.Sprintf("out f i64 i1 i1;^0;br %%2 ^1 ^5;^1;br %%1 ^%d ^%d;^2;%%3 i64 = num 20;ret %%3;^3;%%4 i64 = num 30;ret %%4;^4;%%5 i64 = num 40;ret %%5;^5;br %%1 ^%d ^1", a, b, 2+3+4-a-b)
			wantTold(t, "Br of 1", source, []int64{1, 1}, nil, fmt.Sprintf("returned %d0 in 3", a))
			wantTold(t, "Br of 0", source, []int64{0, 1}, nil, fmt.Sprintf("returned %d0 in 3", b))
			wantTold(t, "Br of 0, twice", source, []int64{0, 0}, nil, fmt.Sprintf("returned %d0 in 4", b))
		}
	}
}

func TestJumps(t *testing.T) {
	wantAll(t, []toldCase{
		{"a Jump ahead", "out f i64;^0;jump ^2;^1;%1 i64 = num 1;ret %1;^2;jump ^1", nil, nil, "returned 1 in 3"},
		{"a long row of Jumps", "out f i64 i64;^0;jump ^1;" + jumps(38) + "^39;ret %1", []int64{6}, nil, "returned 6 in 40"},
		{"Br of what was reckoned", "out f i64 i64 i64;^0;%3 i1 = lt %1 %2;br %3 ^1 ^2;^1;ret %1;^2;ret %2", []int64{4, 3}, nil, "returned 3 in 3"},
		{"Br around", "out f i64 i64;^0;%2 i64 = num 0;jump ^1;^1;%3 i64 = phi ^0 %1 ^2 %6;%4 i1 = eq %3 %2;br %4 ^3 ^2;^2;%5 i64 = num 1;%6 i64 = sub %3 %5;jump ^1;^3;ret %3", []int64{3}, nil, "returned in 16"},
		{"Br to itself", "extern e i1;out f none;^0;jump ^1;^1;%1 i1 = ext e;br %1 ^1 ^2;^2;ret", nil, []int64{1, 1, 0, 1}, "returned in 8, e[] 1, e[] 1, e[] 0"},
	})
}

// jumps are blocks from 1 on, each of which jumps to the next one.
func jumps(count int) string {
	s := ""
	for k := range count {
		s += fmt.Sprintf("^%d;jump ^%d;", k+1, k+2)
	}
	return s
}

func TestPhis(t *testing.T) {
	wantAll(t, []toldCase{
		{"of the first block", "out f i64 i1;^0;br %1 ^1 ^2;^1;%2 i64 = num 10;jump ^3;^2;%3 i64 = num 20;jump ^3;^3;%4 i64 = phi ^1 %2 ^2 %3;ret %4", []int64{1}, nil, "returned 10 in 3"},
		{"of the second block", "out f i64 i1;^0;br %1 ^1 ^2;^1;%2 i64 = num 10;jump ^3;^2;%3 i64 = num 20;jump ^3;^3;%4 i64 = phi ^1 %2 ^2 %3;ret %4", []int64{0}, nil, "returned 20 in 3"},
		{"straight from a Br", "out f i64 i1 i64;^0;br %1 ^1 ^2;^1;%3 i64 = add %2 %2;jump ^2;^2;%4 i64 = phi ^0 %2 ^1 %3;ret %4", []int64{0, 7}, nil, "returned 7 in 2"},
		{"around by a Br", "out f i64 i1 i64;^0;br %1 ^1 ^2;^1;%3 i64 = add %2 %2;jump ^2;^2;%4 i64 = phi ^0 %2 ^1 %3;ret %4", []int64{1, 7}, nil, "returned 14 in 4"},
		{"of one entry", "out f i64 i64;^0;jump ^1;^1;%2 i64 = phi ^0 %1;ret %2", []int64{7}, nil, "returned 7 in 2"},
		{"of each type", "global c 4;out f i64 i1;^0;%2 ptr = glo c;%3 ptr = room 1;%4 fun = fun g;%5 fun = fun h;%6 i1 = not %1;br %1 ^1 ^2;^1;jump ^2;^2;%7 ptr = phi ^0 %3 ^1 %2;%8 fun = phi ^0 %4 ^1 %5;%9 i1 = phi ^0 %6 ^1 %1;%10 i64 = load %7;%11 i64 = via %8 %10;%12 i64 = sel %9 %11 %10;ret %12;" +
			"func g i64 i64;^0;%2 i64 = num 100;%3 i64 = add %1 %2;ret %3;func h i64 i64;^0;%2 i64 = num 200;%3 i64 = add %1 %2;ret %3", []int64{1}, nil, "returned 204 in 10"},
		{"that change places", "out f i64 i64 i64 i64;^0;jump ^1;^1;%4 i64 = phi ^0 %1 ^1 %5;%5 i64 = phi ^0 %2 ^1 %4;%6 i64 = phi ^0 %3 ^1 %8;%7 i64 = num 1;%8 i64 = sub %6 %7;%9 i1 = eq %8 %7;br %9 ^2 ^1;^2;%10 i64 = num 1000;%11 i64 = mul %4 %10;%12 i64 = add %11 %5;ret %12",
			[]int64{3, 8, 4}, nil, "returned 3008 in 13"},
		{"that change places once more", "out f i64 i64 i64 i64;^0;jump ^1;^1;%4 i64 = phi ^0 %1 ^1 %5;%5 i64 = phi ^0 %2 ^1 %4;%6 i64 = phi ^0 %3 ^1 %8;%7 i64 = num 1;%8 i64 = sub %6 %7;%9 i1 = eq %8 %7;br %9 ^2 ^1;^2;%10 i64 = num 1000;%11 i64 = mul %4 %10;%12 i64 = add %11 %5;ret %12",
			[]int64{3, 8, 5}, nil, "returned 8003 in 16"},
		{"each of which takes the next one", "extern e i1;out f i64 i64 i64 i64;^0;jump ^1;^1;%4 i64 = phi ^0 %1 ^1 %5;%5 i64 = phi ^0 %2 ^1 %6;%6 i64 = phi ^0 %3 ^1 %4;%7 i1 = ext e;br %7 ^1 ^2;^2;%8 i64 = num 10;%9 i64 = mul %4 %8;%10 i64 = add %9 %5;%11 i64 = mul %10 %8;%12 i64 = add %11 %6;ret %12",
			[]int64{1, 2, 3}, []int64{1}, "returned 231 in 10, e[] 1, e[] 0"},
		{"each of which takes the one ahead", "extern e i1;out f i64 i64 i64 i64;^0;jump ^1;^1;%4 i64 = phi ^0 %1 ^1 %6;%5 i64 = phi ^0 %2 ^1 %4;%6 i64 = phi ^0 %3 ^1 %5;%7 i1 = ext e;br %7 ^1 ^2;^2;%8 i64 = num 10;%9 i64 = mul %4 %8;%10 i64 = add %9 %5;%11 i64 = mul %10 %8;%12 i64 = add %11 %6;ret %12",
			[]int64{1, 2, 3}, []int64{1}, "returned 312 in 10, e[] 1, e[] 0"},
		{"one that takes itself", "extern e i1;out f i64 i64;^0;jump ^1;^1;%2 i64 = phi ^0 %1 ^1 %2;%3 i1 = ext e;br %3 ^1 ^2;^2;ret %2", []int64{9}, []int64{1, 1, 1}, "returned 9 in 10, e[] 1, e[] 1, e[] 1, e[] 0"},
		{"of a block that comes from itself", "out f i64 i64;^0;%2 i64 = num 0;jump ^1;^1;%3 i64 = phi ^0 %1 ^1 %6;%4 i64 = phi ^0 %2 ^1 %7;%5 i64 = num 1;%6 i64 = sub %3 %5;%7 i64 = add %4 %3;%8 i1 = eq %6 %2;br %8 ^2 ^1;^2;ret %7", []int64{4}, nil, "returned 10 in 18"},
		{"the one ahead, seen behind the ring", "out f i64 i64;^0;%2 i64 = num 0;jump ^1;^1;%3 i64 = phi ^0 %1 ^1 %6;%4 i64 = phi ^0 %2 ^1 %3;%5 i64 = num 1;%6 i64 = sub %3 %5;%7 i1 = eq %6 %2;br %7 ^2 ^1;^2;ret %4", []int64{4}, nil, "returned 2 in 14"},
		{"a call in a ring", "out f i64 i64;^0;%2 i64 = num 0;jump ^1;^1;%3 i64 = phi ^0 %1 ^1 %5;%4 i64 = phi ^0 %2 ^1 %6;%5 i64 = call less %3;%6 i64 = call more %4 %3;%7 i1 = eq %5 %2;br %7 ^2 ^1;^2;ret %6;func less i64 i64;^0;jump ^1;^1;%2 i64 = phi ^0 %1;%3 i64 = num 1;%4 i64 = sub %2 %3;ret %4;func more i64 i64 i64;^0;%3 i64 = mul %2 %2;%4 i64 = add %1 %3;ret %4", []int64{3}, nil, "returned 14 in 32"},
	})
}

// A block that four others go to: what each Phi gives is what it has of the one that was come from.
func TestPhisOfEachWay(t *testing.T) {
	source := "out f i64 i1 i1;^0;%3 i64 = num 3;%4 i64 = num 4;%5 i64 = num 5;%6 i64 = num 6;br %1 ^1 ^2;^1;br %2 ^3 ^4;^2;br %2 ^5 ^6;^3;jump ^7;^4;jump ^7;^5;jump ^7;^6;jump ^7;" +
		"^7;%7 i64 = phi ^3 %3 ^4 %4 ^5 %5 ^6 %6;%8 i64 = phi ^3 %6 ^4 %4 ^5 %3 ^6 %3;%9 i64 = num 10;%10 i64 = mul %8 %9;%11 i64 = add %10 %7;ret %11"
	for _, c := range []struct {
		args []int64
		want string
	}{
		{[]int64{1, 1}, "returned 63 in 6"}, {[]int64{1, 0}, "returned 44 in 6"}, {[]int64{0, 1}, "returned 35 in 6"}, {[]int64{0, 0}, "returned 36 in 6"},
	} {
		wantTold(t, "four ways", source, c.args, nil, c.want)
	}
}

// As many Phis as a function can have, each of which takes the next one.
func TestManyPhis(t *testing.T) {
	const count = 200
	var s strings.Builder
	s.WriteString("extern e i1;out f i64 i64;^0;%2 i64 = num 100;jump ^1;^1;")
	for k := range count {
		first := "%1"
		if k > 0 {
			first = "%2"
		}
		fmt.Fprintf(&s, "%%%d i64 = phi ^0 %s ^1 %%%d;", 3+k, first, 3+(k+1)%count)
	}
	fmt.Fprintf(&s, "%%%d i1 = ext e;br %%%d ^1 ^2;^2;ret %%%d", 3+count, 3+count, 2+count)
	// The first one's number stands in the last one when all have been moved by one.
	for rounds := range 4 {
		script := []int64{1, 1, 1}[:rounds]
		want := fmt.Sprintf("returned 100 in %d%s, e[] 0", 2*rounds+4, strings.Repeat(", e[] 1", rounds))
		if rounds == 1 {
			want = strings.Replace(want, " 100", " 5", 1)
		}
		wantTold(t, "many Phis", s.String(), []int64{5}, script, want)
	}
}

func TestRet(t *testing.T) {
	wantAll(t, []toldCase{
		{"of nothing", "out f none;^0;ret", nil, nil, "returned in 1"},
		{"of nothing, with parameters", "out f none i64;^0;ret", []int64{4}, nil, "returned in 1"},
		{"of an I1", "out f i1 i1;^0;ret %1", []int64{1}, nil, "returned 1 in 1"},
		{"of the second parameter", "out f i64 i64 i64;^0;ret %2", []int64{1, 2}, nil, "returned 2 in 1"},
		{"of a number that came from a call", "out f i64;^0;%1 i64 = call g;ret %1;func g i64;^0;%1 i64 = call h;ret %1;func h i64;^0;%1 i64 = num -8;ret %1", nil, nil, "returned -8 in 5"},
		{"of nothing behind a call that gives something", "out f none;^0;%1 i64 = call g;ret;func g i64;^0;%1 i64 = num 8;ret %1", nil, nil, "returned in 3"},
		{"from each of two places", "out f i64 i1;^0;%2 i64 = call g %1;ret %2;func g i64 i1;^0;br %1 ^1 ^2;^1;%2 i64 = num 4;ret %2;^2;%3 i64 = num 5;ret %3", []int64{1}, nil, "returned 4 in 4"},
		{"to the one that called, not to the first one", "extern e none i64;out f i64;^0;%1 i64 = num 1;%2 i64 = call g %1;%3 i64 = num 7;ext e %3;ret %2;func g i64 i64;^0;%2 i64 = num 2;%3 i64 = call h %2;%4 i64 = num 8;ext e %4;%5 i64 = add %3 %1;ret %5;func h i64 i64;^0;%2 i64 = num 9;ext e %2;ret %1", nil, nil,
			"returned 3 in 9, e[9] 0, e[8] 0, e[7] 0"},
	})
}

func TestStop(t *testing.T) {
	wantAll(t, []toldCase{
		{"at once", "out f none;^0;stop", nil, nil, "trapped by 5 in 1"},
		{"of one that gives something", "out f i64 i64;^0;stop", []int64{5}, nil, "trapped by 5 in 1"},
		{"behind an event", "extern e i64 i64;out f i64 i64;^0;%2 i64 = ext e %1;stop", []int64{5}, []int64{6}, "trapped by 5 in 2, e[5] 6"},
		{"in a call of a call", "out f none;^0;call g;ret;func g none;^0;call h;ret;func h none;^0;stop", nil, nil, "trapped by 5 in 3"},
		{"one that is not come to", "out f none i1;^0;br %1 ^1 ^2;^1;stop;^2;ret", []int64{0}, nil, "returned in 2"},
	})
}
