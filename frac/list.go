package frac

import "slices"

// Sum is all of l together; 0 of none.
func Sum(l []Q) Q {
	var sum Q
	for _, a := range l {
		sum = sum.Add(a)
	}
	return sum
}

// Mean is the sum by how many there are; false of none.
func Mean(l []Q) (Q, bool) {
	return Sum(l).Div(Of(int64(len(l))))
}

// Dot is the sum of the products; false, if a and b are not as many.
func Dot(a, b []Q) (Q, bool) {
	if len(a) != len(b) {
		return Q{}, false
	}
	var sum Q
	for i, x := range a {
		sum = sum.Add(x.Mul(b[i]))
	}
	return sum, true
}

// Same tells whether a and b are as many, and each alike.
func Same(a, b []Q) bool {
	return len(a) == len(b) && slices.CompareFunc(a, b, Q.Cmp) == 0
}

// Less tells whether a comes ahead of b, by the first that differs; one that ends ahead comes first.
func Less(a, b []Q) bool {
	return slices.CompareFunc(a, b, Q.Cmp) < 0
}

// Sort is l in an order that never falls, in new memory.
func Sort(l []Q) []Q {
	sorted := slices.Clone(l)
	slices.SortFunc(sorted, Q.Cmp)
	return sorted
}

// Median is the one in the middle of l sorted, or the mean of the two; false of none.
func Median(l []Q) (Q, bool) {
	n := len(l)
	if n == 0 {
		return Q{}, false
	}
	return Mean(Sort(l)[(n-1)/2 : n/2+1])
}
