package axis

import "slices"

// Order are the numbers, rising, each once.
func Order(ns ...int) []int {
	row := slices.Clone(ns)
	slices.Sort(row)
	return slices.Compact(row)
}

// Union are the numbers of both.
func Union(a, b []int) []int {
	return Order(slices.Concat(a, b)...)
}

// Inter are the numbers in both.
func Inter(a, b []int) []int {
	return pick(a, b, true)
}

// Except are the numbers in a alone.
func Except(a, b []int) []int {
	return pick(a, b, false)
}

// pick are the numbers of a that are in b, or those that aren't.
func pick(a, b []int, in bool) []int {
	others := Order(b...)
	return slices.DeleteFunc(Order(a...), func(n int) bool {
		_, found := slices.BinarySearch(others, n)
		return found != in
	})
}
