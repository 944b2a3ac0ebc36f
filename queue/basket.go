package queue

import (
	"cmp"
	"slices"

	"cannery/api"
	"cannery/lethal"
)

// ValidBaskets reports whether baskets are valid.
func ValidBaskets(l []api.Basket) bool {
	return len(l) <= api.MaxBaskets &&
		!slices.ContainsFunc(l, func(b api.Basket) bool { return !validBasket(b) }) &&
		distinct(l) &&
		slices.Equal(l, inOrder(l))
}

func validBasket(b api.Basket) bool {
	return within(b.Number, 1, mostNumber) &&
		within(b.Came, 0, api.MaxTick) &&
		lethal.Name(b.Product) &&
		within(b.Cans, 1, mostCans)
}

// distinct reports whether no two baskets have the same Number.
func distinct(l []api.Basket) bool {
	seen := make(map[int]bool)
	for _, b := range l {
		if seen[b.Number] {
			return false
		}
		seen[b.Number] = true
	}
	return true
}

// inOrder returns baskets as they came, and by their Number where they came at once.
func inOrder(l []api.Basket) []api.Basket {
	sorted := slices.Clone(l)
	slices.SortFunc(sorted, func(a, b api.Basket) int {
		return cmp.Or(cmp.Compare(a.Came, b.Came), cmp.Compare(a.Number, b.Number))
	})
	return sorted
}

// Merge returns the baskets of two lists in order.
func Merge(a, b []api.Basket) ([]api.Basket, api.Errno) {
	if !ValidBaskets(a) || !ValidBaskets(b) {
		return nil, api.ErrInvalid
	}
	l := slices.Concat(a, b)
	if !distinct(l) {
		return nil, api.ErrDuplicate
	}
	if len(l) > api.MaxBaskets {
		return nil, api.ErrLimit
	}
	return inOrder(l), api.OK
}
