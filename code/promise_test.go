package code_test

import (
	"fmt"
	"math"
	"slices"
	"testing"

	"cannery/api"
	"cannery/code"
)

// answers calls each function, and tells the results.
func answers(a, b int, s, r string, made []string, l []api.Stamp) string {
	told := ""
	add := func(results ...any) { told += fmt.Sprintln(results...) }
	var x api.Stamp
	if len(l) > 0 {
		x = l[len(l)-1]
	}
	d := api.Date{Year: a, Month: b, Day: b}
	add(code.Leap(a), code.ValidDate(d), code.Value(byte(a)), code.Sign(a), code.ValidStamp(x), code.Sound(s))
	day, e := code.DayOf(d)
	add(day, e)
	date, e := code.DateOf(a)
	add(date, e)
	weekday, e := code.Weekday(a)
	add(weekday, e)
	number, e := code.OfYear(a)
	add(number, e)
	weight, e := code.Weight(s)
	add(weight, e)
	text, e := code.Print(x)
	add(text, e)
	stamp, e := code.Read(s, a)
	add(stamp, e)
	distance, e := code.Distance(s, r)
	add(distance, e)
	texts, e := code.Beside(s)
	add(texts, e)
	count, e := code.Count(b)
	add(count, e)
	which, distance, e := code.Nearest(s, made)
	add(which, distance, e)
	index, ok, e := code.Only(s, made, b)
	add(index, ok, e)
	which, e = code.Doubtful(s, made, b)
	add(which, e)
	texts, e = code.Alike(s)
	add(texts, e)
	stamps, e := code.Around(x, b)
	add(stamps, e)
	pairs, e := code.Clash(l)
	add(pairs, e)
	return told
}

// P6.1, R1, R7: every call ends, none panics, and a second call answers the same, whatever the arguments.
func TestExtremes(t *testing.T) {
	ints := []int{math.MinInt, -400, -31, -1, 0, 1, 2, 5, 9, 10, 12, 28, 29, 30, 31, 32, 365, 366, 1999, 2000, 2100, 2199, 2200, 36525, lastDay, lastDay + 1, math.MaxInt}
	texts := slices.Concat(noTexts, []string{"000000000", "WWWWWWWWW", "A1701U23U", "88B0D5S2Q", anyText(5), anySound(6), sealed("A17WWW23")})
	lists := [][]string{nil, noTexts, list(30, 1), {anyText(1)}, {anyText(1), noTexts[3]}, list(2001, 3)}
	stamps := [][]api.Stamp{nil, badStamps(), goodStamps(), {stamp(0, 0)}, {stamp(lastDay, 30)}, slices.Repeat([]api.Stamp{stamp(59, 3)}, 501)}
	for i := range 6000 {
		at := numbers(6, i, 0, 1000)
		a, b := ints[at[0]%len(ints)], ints[at[1]%len(ints)]
		s, r := texts[at[2]%len(texts)], texts[at[3]%len(texts)]
		made, l := lists[at[4]%len(lists)], stamps[at[5]%len(stamps)]
		if first, second := answers(a, b, s, r, made, l), answers(a, b, s, r, made, l); first != second {
			t.Errorf("two answers: %s, %s", first, second)
		}
	}
}

// P6.1, R4: arguments are read only, also beyond their length, and no memory is shared.
func TestNothingIsShared(t *testing.T) {
	made := append(list(30, 1), "", "x", "y")
	l := append([]api.Stamp{stamp(0, 3), stamp(3653, 3), stamp(0, 3)}, badStamps()...)
	kept := fmt.Sprint(made, l)
	call := func() (texts [][]string, indexes [][]int, stamps []api.Stamp, pairs [][2]int) {
		beside, _ := code.Beside("100000000")
		alike, _ := code.Alike(sealed("88B0D5S2"))
		nearest, _, _ := code.Nearest(made[0], made[:30])
		doubtful, _ := code.Doubtful(made[0], made[:30], 1)
		code.Only(made[0], made[:30], 1)
		around, _ := code.Around(l[1], 20)
		clash, _ := code.Clash(l[:3])
		return [][]string{beside, alike}, [][]int{nearest, doubtful}, around, clash
	}
	texts, indexes, stamps, pairs := call()
	before := fmt.Sprint(texts, indexes, stamps, pairs)
	for i := range texts {
		if len(texts[i]) == 0 || len(indexes[i]) == 0 || len(stamps) == 0 || len(pairs) == 0 {
			t.Error("a result has nothing that could be shared")
		}
		spoil(texts[i])
		spoil(indexes[i])
	}
	spoil(stamps)
	spoil(pairs)
	if fmt.Sprint(made, l) != kept {
		t.Error("the arguments have changed")
	}
	texts, indexes, stamps, pairs = call()
	if fmt.Sprint(texts, indexes, stamps, pairs) != before {
		t.Error("results that were changed come back")
	}
}

// spoil changes all of a list's memory.
func spoil[T any](l []T) {
	clear(l[:cap(l)])
}

// R4: a nil list and an empty one are the same.
func TestEmptyLists(t *testing.T) {
	if first, second := answers(1, 1, "A1701U23U", "A1701U23U", nil, nil), answers(1, 1, "A1701U23U", "A1701U23U", []string{}, []api.Stamp{}); first != second {
		t.Errorf("two answers: %s, %s", first, second)
	}
}
