package queue_test

import (
	"math"
	"slices"
	"testing"

	"cannery/api"
	"cannery/queue"
)

// numbers makes n of them from least to most.
func numbers(n, seed, least, most int) []int {
	l := make([]int, n)
	for i := range l {
		seed = (seed*1103515245 + 12345) % 2147483648
		l[i] = least + seed/8%(most-least+1)
	}
	return l
}

func basket(number, came int) api.Basket {
	return api.Basket{Number: number, Came: came, Product: "peas", Cans: 400}
}

// came makes baskets that came at ascending ticks, with the numbers from 1 on.
func came(ticks ...int) []api.Basket {
	l := make([]api.Basket, 0, len(ticks))
	for i, t := range ticks {
		l = append(l, basket(i+1, t))
	}
	return l
}

// some makes n baskets that came from 0 to most.
func some(n, seed, most int) []api.Basket {
	ticks := numbers(n, seed, 0, most)
	slices.Sort(ticks)
	return came(ticks...)
}

// changed changes a valid basket.
func changed(change func(*api.Basket)) api.Basket {
	b := basket(5, 20)
	change(&b)
	return b
}

// badBaskets lists what is no basket.
func badBaskets() []api.Basket {
	var l []api.Basket
	for _, n := range []int{math.MinInt, -1, 0, 1000001, math.MaxInt} {
		l = append(l, changed(func(b *api.Basket) { b.Number = n }), changed(func(b *api.Basket) { b.Cans = n }))
	}
	for _, t := range []int{math.MinInt, -1, 100000001, math.MaxInt} {
		l = append(l, changed(func(b *api.Basket) { b.Came = t }))
	}
	for _, s := range []string{"", "Peas", "7up", "_x", "two words", "pea-s", "seventeenletters_", "pois\xc3\xa9"} {
		l = append(l, changed(func(b *api.Basket) { b.Product = s }))
	}
	return l
}

// badLists lists lists of baskets that are not valid.
func badLists() [][]api.Basket {
	lists := [][]api.Basket{
		{{}},
		{basket(7, 1), basket(7, 1)},
		{basket(7, 1), basket(7, 2)},
		{basket(7, 1), basket(8, 1), basket(7, 2)},
		{basket(7, 2), basket(8, 1)},
		{basket(8, 1), basket(7, 1)},
		{basket(1, 5), basket(2, 5), basket(3, 4)},
		{basket(1, 5), basket(3, 5), basket(2, 5), basket(4, 6)},
		came(make([]int, 501)...),
		came(make([]int, 1000)...),
	}
	for i, b := range badBaskets() {
		lists = append(lists, []api.Basket{b})
		if i%2 == 0 {
			lists = append(lists, []api.Basket{basket(1, 3), b, basket(9, 30)})
		}
	}
	return lists
}

// goodLists lists lists of baskets that are valid, at the limits.
func goodLists() [][]api.Basket {
	return [][]api.Basket{
		nil,
		{},
		{{Number: 1, Came: 0, Product: "a", Cans: 1}},
		{{Number: 1000000, Came: 100000000, Product: "sixteen_letters1", Cans: 1000000}},
		{basket(7, 1), basket(8, 1)},
		{basket(8, 1), basket(7, 2)},
		{basket(3, 0), basket(5, 0), basket(1, 1), basket(1000000, 1), basket(2, 100000000)},
		{basket(1, 4), {Number: 2, Came: 4, Product: "beans", Cans: 7}},
		came(make([]int, 500)...),
	}
}

// 7.1
func TestValidBaskets(t *testing.T) {
	for _, l := range goodLists() {
		if !queue.ValidBaskets(l) {
			t.Errorf("%v is not valid", l)
		}
	}
	for _, l := range badLists() {
		if queue.ValidBaskets(l) {
			t.Errorf("%v is valid", l)
		}
	}
}

// 7.5
func TestMerge(t *testing.T) {
	for _, c := range []struct{ a, b, want []api.Basket }{
		{nil, nil, nil},
		{came(1, 2), nil, came(1, 2)},
		{nil, came(1, 2), came(1, 2)},
		{
			[]api.Basket{basket(1, 10), basket(2, 30)},
			[]api.Basket{basket(3, 0), basket(4, 20), basket(5, 40)},
			[]api.Basket{basket(3, 0), basket(1, 10), basket(4, 20), basket(2, 30), basket(5, 40)},
		},
		// at once: by the number
		{
			[]api.Basket{basket(2, 10), basket(9, 10), basket(1, 11)},
			[]api.Basket{basket(3, 10), basket(10, 10), basket(8, 11)},
			[]api.Basket{basket(2, 10), basket(3, 10), basket(9, 10), basket(10, 10), basket(1, 11), basket(8, 11)},
		},
		{
			[]api.Basket{{Number: 2, Came: 5, Product: "beans", Cans: 1}},
			[]api.Basket{{Number: 1, Came: 5, Product: "corn", Cans: 2}},
			[]api.Basket{{Number: 1, Came: 5, Product: "corn", Cans: 2}, {Number: 2, Came: 5, Product: "beans", Cans: 1}},
		},
		{came(make([]int, 499)...), []api.Basket{basket(1000, 0)}, append(came(make([]int, 499)...), basket(1000, 0))},
		{came(make([]int, 500)...), nil, came(make([]int, 500)...)},
	} {
		if l, e := queue.Merge(c.a, c.b); !slices.Equal(l, c.want) || e != api.OK {
			t.Errorf("Merge(%v, %v) = %v, %d", c.a, c.b, l, e)
		}
	}
}

// 7.5, R2: invalid before twice, twice before too many.
func TestMergeErrors(t *testing.T) {
	full := came(make([]int, 500)...)
	for _, bad := range badLists() {
		for _, other := range [][]api.Basket{nil, came(1, 2), full, bad} {
			if l, e := queue.Merge(bad, other); len(l) != 0 || e != api.ErrInvalid {
				t.Errorf("Merge(%v, %v) = %v, %d", bad, other, l, e)
			}
			if l, e := queue.Merge(other, bad); len(l) != 0 || e != api.ErrInvalid {
				t.Errorf("Merge(%v, %v) = %v, %d", other, bad, l, e)
			}
		}
	}
	for _, c := range []struct {
		a, b []api.Basket
		want api.Errno
	}{
		{came(1, 2), came(1), api.ErrDuplicate},
		{came(1, 2), []api.Basket{basket(2, 50)}, api.ErrDuplicate},
		{[]api.Basket{basket(6, 50)}, []api.Basket{basket(6, 0)}, api.ErrDuplicate},
		{full, []api.Basket{basket(500, 1)}, api.ErrDuplicate},
		{full, full, api.ErrDuplicate},
		{full, []api.Basket{basket(501, 1)}, api.ErrLimit},
		{[]api.Basket{basket(501, 0)}, full, api.ErrLimit},
	} {
		if l, e := queue.Merge(c.a, c.b); len(l) != 0 || e != c.want {
			t.Errorf("Merge of %d and %d = %v, %d", len(c.a), len(c.b), l, e)
		}
	}
}

// P7.6: whatever is merged first.
func TestMergeInAnyOrder(t *testing.T) {
	for seed := range 300 {
		l := some(3+seed%40, seed, 25)
		var parts [3][]api.Basket
		for i, n := range numbers(len(l), seed+9, 0, 2) {
			parts[n] = append(parts[n], l[i])
		}
		for _, order := range [][3]int{{0, 1, 2}, {0, 2, 1}, {1, 0, 2}, {1, 2, 0}, {2, 0, 1}, {2, 1, 0}} {
			a, b, c := parts[order[0]], parts[order[1]], parts[order[2]]
			first, _ := queue.Merge(a, b)
			left, e := queue.Merge(first, c)
			second, _ := queue.Merge(b, c)
			right, f := queue.Merge(a, second)
			if !slices.Equal(left, l) || e != api.OK || !slices.Equal(right, l) || f != api.OK || !queue.ValidBaskets(left) {
				t.Errorf("%v of %v is merged to %v, %d or %v, %d", order, parts, left, e, right, f)
			}
		}
	}
}
