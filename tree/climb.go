package tree

// there is whether there is an at-th one of n leaves.
func there(n, at int) bool {
	return 0 <= at && at < n
}

// climb goes from the at-th leaf on up to the top of those from first to below
// end, and tells beside each part that the way comes from the one that it is
// put together with: which leaves that one has, and whether it is on the left.
func climb(first, end, at int, beside func(first, end int, left bool)) {
	if end-first < 2 {
		return
	}
	middle := first + Half(end-first)
	if at < middle {
		climb(first, middle, at, beside)
		beside(middle, end, false)
	} else {
		climb(middle, end, at, beside)
		beside(first, middle, true)
	}
}
