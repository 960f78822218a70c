package frac

import (
	"math/big"
	"slices"
	"strings"
	"testing"
)

// row is the fractions that s tells, parted by blanks.
func row(s string) []Q {
	var l []Q
	for _, x := range strings.Fields(s) {
		l = append(l, q(x))
	}
	return l
}

// told is l as row takes it.
func told(l []Q) string {
	var texts []string
	for _, a := range l {
		texts = append(texts, a.Text())
	}
	return strings.Join(texts, " ")
}

// rows is rows by chance, of some lengths, short and long fractions in them, some more than once.
func rows() [][]Q {
	c := chance(13)
	all := numbers()
	list := [][]Q{nil, {}}
	for n := 1; n < 40; n += 1 + n/4 {
		for range 3 {
			l := make([]Q, n)
			for i := range l {
				l[i] = all[c.word()>>20%uint64(len(all))]
				if i > 0 && c.word()>>20%4 == 0 {
					l[i] = l[i-1]
				}
			}
			list = append(list, l)
		}
	}
	return list
}

// 3.3: Sum, Mean and Dot; false of none, and of those that are not as many.
func TestSumMeanDot(t *testing.T) {
	all := rows()
	for _, l := range all {
		sum := new(big.Rat)
		for _, a := range l {
			sum.Add(sum, toBig(a))
		}
		check(t, "sum", Sum(l), sum)
		mean, ok := Mean(l)
		if ok != (len(l) > 0) || !ok && !isNone(mean) {
			t.Fatal("mean", told(l), mean.Text(), ok)
		}
		if ok {
			check(t, "mean", mean, new(big.Rat).Quo(sum, new(big.Rat).SetInt64(int64(len(l)))))
		}
		for _, m := range all {
			dot, ok := Dot(l, m)
			if ok != (len(l) == len(m)) || !ok && !isNone(dot) {
				t.Fatal("dot", told(l), told(m), dot.Text(), ok)
			}
			if !ok {
				continue
			}
			want := new(big.Rat)
			for i := range l {
				want.Add(want, new(big.Rat).Mul(toBig(l[i]), toBig(m[i])))
			}
			check(t, "dot", dot, want)
		}
	}
	if got, ok := Dot(nil, []Q{}); !ok || !isNone(got) {
		t.Error("dot of none", got.Text(), ok)
	}
}

// 3.4: Same and Less, by the first that differs; one that ends ahead comes first.
func TestSameAndLess(t *testing.T) {
	for _, x := range []struct {
		a, b             string
		same, less, more bool
	}{
		{"", "", true, false, false},
		{"", "0", false, true, false},
		{"", "-1", false, true, false},
		{"1 2", "1 2", true, false, false},
		{"1/2 -3", "2/4 -6/2", true, false, false},
		{"1", "1 2", false, true, false},
		{"1", "1 -2", false, true, false},
		{"2", "1 5", false, false, true},
		{"0 9", "1", false, true, false},
		{"1 2 9", "1 3", false, true, false},
		{"1 2 3", "1 2 4", false, true, false},
		{"-1", "1", false, true, false},
		{"1/3", "1/2", false, true, false},
		{"9223372036854775808 1", "9223372036854775808 1", true, false, false},
		{"9223372036854775807 2", "9223372036854775808 1", false, true, false},
		{"1/9223372036854775809", "1/9223372036854775808", false, true, false},
	} {
		a, b := row(x.a), row(x.b)
		if Same(a, b) != x.same || Same(b, a) != x.same || Less(a, b) != x.less || Less(b, a) != x.more {
			t.Error(x)
		}
	}
	if !Same(nil, []Q{}) || Less(nil, []Q{}) || Less([]Q{}, nil) {
		t.Error("no list and an empty one")
	}
}

// 3.4: Sort never falls and has all that was handed in, which stays as it was; it is new memory.
func TestSort(t *testing.T) {
	for _, l := range rows() {
		was := slices.Clone(l)
		sorted := Sort(l)
		if !slices.Equal(l, was) {
			t.Fatal("handed in and changed", told(l))
		}
		for i := range sorted {
			if i > 0 && sorted[i].Cmp(sorted[i-1]) < 0 {
				t.Fatal("it falls", told(sorted))
			}
		}
		count := map[string]int{}
		for _, a := range l {
			count[a.Text()]++
		}
		for _, a := range sorted {
			count[a.Text()]--
		}
		for s, n := range count {
			if n != 0 {
				t.Fatal(s, "more often in one", n)
			}
		}
		if len(l) > 0 {
			sorted[0] = q("77777")
			if !slices.Equal(l, was) {
				t.Fatal("shares what was handed in", told(l))
			}
		}
	}
	if got := told(Sort(row("3 1/2 -1 1/2"))); got != "-1 1/2 1/2 3" {
		t.Error(got)
	}
	if got := Sort(nil); len(got) != 0 {
		t.Error(told(got))
	}
}

// 3.4: Median of odd and even lengths, in any order; false of none.
func TestMedian(t *testing.T) {
	for s, want := range map[string]string{
		"7": "7", "-7/3": "-7/3", "1 2": "3/2", "2 1": "3/2", "3 1 2": "2", "2 3 1": "2", "1 1 9": "1", "9 1 1": "1", "3 1/2 -1 1/2": "1/2", "4 1 3 2": "5/2",
		"-1 1": "0", "5 4 3 2 1": "3", "6 5 4 3 2 1": "7/2", "9223372036854775807 9223372036854775807": "9223372036854775807", "100 1/3 1/2 -50": "5/12",
	} {
		l := row(s)
		was := told(l)
		got, ok := Median(l)
		if !ok || got.Cmp(q(want)) != 0 || told(l) != was {
			t.Error(s, got.Text(), ok, told(l))
		}
	}
	for _, l := range [][]Q{nil, {}} {
		if got, ok := Median(l); ok || !isNone(got) {
			t.Error("of none", got.Text(), ok)
		}
	}
}
