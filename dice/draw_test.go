package dice

import (
	"math"
	"math/big"
	"slices"
	"testing"
)

// belowOf is what a dice of that state tells below n, and its state behind that, by big numbers.
func belowOf(state uint64, n int) (int, uint64) {
	limit := new(big.Int).Div(allWords(), big.NewInt(int64(n)))
	limit.Mul(limit, big.NewInt(int64(n)))
	for {
		var u uint64
		state, u = nextOf(state)
		if big64(u).Cmp(limit) < 0 {
			return int(new(big.Int).Mod(big64(u), big.NewInt(int64(n))).Int64()), state
		}
	}
}

// bounds is numbers to be below, of all sizes.
func bounds() []int {
	all := []int{math.MaxInt, math.MaxInt - 1, 1<<62 + 1, 1 << 62, 1<<62 - 1, 3 << 61, 1<<61 + 1, 6148914691236517206, 6148914691236517205}
	for n := 1; n < 70; n++ {
		all = append(all, n)
	}
	for shift := 7; shift < 62; shift++ {
		all = append(all, 1<<shift-1, 1<<shift, 1<<shift+1, 3<<(shift-1)+1)
	}
	return all
}

// 5.2: Below, held against big numbers.
func TestBelow(t *testing.T) {
	for _, n := range bounds() {
		d := New(uint64(n))
		for range 20 {
			want, state := belowOf(d.State(), n)
			if got := d.Below(n); got != want || d.State() != state {
				t.Fatal(n, got, want)
			}
		}
	}
}

// 5.2: the last word that is taken, and the first that is passed over.
func TestBelowAtTheEdge(t *testing.T) {
	for _, n := range bounds() {
		rest := new(big.Int).Mod(allWords(), big.NewInt(int64(n))).Uint64()
		last := -rest - 1
		for _, u := range []uint64{0, 1, uint64(n) - 1, uint64(n), last - 1, last, last + 1, last + 2, math.MaxUint64} {
			d := telling(u)
			want, state := belowOf(d.State(), n)
			if got := d.Below(n); got != want || d.State() != state {
				t.Error(n, u, got, want)
			}
		}
		d, e := telling(last), telling(last)
		if got := d.Below(n); e.Next() != last || got != n-1 || d.State() != e.State() {
			t.Error("the last one", n, got)
		}
		d, e = telling(last+1), telling(last+1)
		d.Below(n)
		if e.Next(); rest > 0 && d.State() == e.State() {
			t.Error("the first one above is taken", n)
		}
	}
}

// 5.2: of a number below 1 it is 0, and nothing is drawn; of 1 it is 0, and a word is.
func TestBelowOfNone(t *testing.T) {
	d := New(4)
	for _, n := range []int{0, -1, -2, math.MinInt, -math.MaxInt} {
		if got := d.Below(n); got != 0 || d.State() != 4 {
			t.Error(n, got, d.State())
		}
	}
	if got := d.Below(1); got != 0 || d.State() == 4 {
		t.Error("of 1", got)
	}
}

// orderOf is what a dice of that state makes of n numbers, and its state behind that.
func orderOf(state uint64, n int) ([]int, uint64) {
	var l []int
	for i := range n {
		l = append(l, i)
	}
	for i := n - 1; i >= 1; i-- {
		var j int
		j, state = belowOf(state, i+1)
		l[i], l[j] = l[j], l[i]
	}
	return l, state
}

// 5.2: Order, held against its words.
func TestOrder(t *testing.T) {
	for n := 1; n < 70; n++ {
		d := New(uint64(n))
		for range 5 {
			want, state := orderOf(d.State(), n)
			if got := d.Order(n); !slices.Equal(got, want) || d.State() != state {
				t.Fatal(n, got, want)
			}
		}
	}
	d := New(1)
	if got := d.Order(1); !slices.Equal(got, []int{0}) || d.State() != 1 {
		t.Error("of 1", got)
	}
}

// 5.2: the longest Order has each number once; of a longer one, and of none, nothing is drawn.
func TestOrderAtTheEdges(t *testing.T) {
	d := New(9)
	for _, n := range []int{0, -1, math.MinInt, 1<<16 + 1, 1 << 17, math.MaxInt} {
		if got := d.Order(n); len(got) != 0 || d.State() != 9 {
			t.Error(n, len(got))
		}
	}
	for _, n := range []int{1<<16 - 1, 1 << 16} {
		want, state := orderOf(d.State(), n)
		got := d.Order(n)
		if !slices.Equal(got, want) || d.State() != state {
			t.Error(n, "is another order")
		}
		slices.Sort(got)
		for i, x := range got {
			if i != x {
				t.Fatal(n, "has not each number once")
			}
		}
	}
}

// 5.2: each order of four comes about as often as another.
func TestOrdersAreAlike(t *testing.T) {
	d := New(2026)
	seen := map[[4]int]int{}
	for range 24000 {
		seen[[4]int(d.Order(4))]++
	}
	if len(seen) != 24 {
		t.Error(len(seen), "orders")
	}
	for order, n := range seen {
		if n < 850 || n > 1150 {
			t.Error(order, n)
		}
	}
}

// 5.2: Draw is Below, time after time.
func TestDraw(t *testing.T) {
	for _, n := range bounds() {
		for _, k := range []int{1, 2, 7} {
			d := New(uint64(n + k))
			state := d.State()
			got := d.Draw(n, k)
			if len(got) != k {
				t.Fatal(n, k, got)
			}
			for _, x := range got {
				var want int
				if want, state = belowOf(state, n); x != want {
					t.Fatal(n, k, x, want)
				}
			}
			if d.State() != state {
				t.Error("state", n, k)
			}
		}
	}
}

// 5.2: the longest Draw; of a longer one, and of none, nothing is drawn.
func TestDrawAtTheEdges(t *testing.T) {
	d, e := New(6), New(6)
	for _, x := range [][2]int{{0, 1}, {1, 0}, {0, 0}, {-1, 3}, {3, -1}, {math.MinInt, 3}, {3, math.MinInt}, {3, 1<<16 + 1}, {3, math.MaxInt}, {math.MinInt, math.MaxInt}} {
		if got := d.Draw(x[0], x[1]); len(got) != 0 || d.State() != 6 {
			t.Error(x, len(got))
		}
	}
	got := d.Draw(1, 1<<16)
	for range 1 << 16 {
		e.Next()
	}
	if len(got) != 1<<16 || slices.Max(got) != 0 || slices.Min(got) != 0 || d.State() != e.State() {
		t.Error("of the longest", len(got))
	}
}

// Rule 2: what is told is new memory.
func TestListsAreNew(t *testing.T) {
	d := New(8)
	for _, tell := range []func(n int) []int{d.Order, func(n int) []int { return d.Draw(n, n) }} {
		one := tell(30)
		was := slices.Clone(one)
		two := tell(30)
		for i := range two {
			two[i] = -1
		}
		if !slices.Equal(one, was) {
			t.Error("two share their memory")
		}
		d = New(8)
	}
}
