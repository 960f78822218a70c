package dice

// mostDrawn is how many numbers one call draws at the most.
const mostDrawn = 1 << 16

// Below is a number from 0 to n - 1, each as likely; 0 of an n below 1, and
// nothing is drawn.
func (d *Dice) Below(n int) int {
	if n < 1 {
		return 0
	}
	return int(evenWord(uint64(n), d.Next) % uint64(n))
}

// evenWord is the first word of next that is below the greatest multiple of n
// up to 2^64: below it each remainder by n is of as many words.
func evenWord(n uint64, next func() uint64) uint64 {
	above := -n % n // 2^64 by n leaves so much: so many words are above
	u := next()
	for ^u < above {
		u = next()
	}
	return u
}

// Order is 0 to n - 1 in an order by chance; none of an n below 1 or above
// 2^16, and nothing is drawn.
func (d *Dice) Order(n int) []int {
	if n < 1 || n > mostDrawn {
		return nil
	}
	order := make([]int, n)
	for i := range order {
		order[i] = i
	}
	mix(order, d.Below)
	return order
}

// mix changes places in l, from its end on, with those that below tells.
func mix(l []int, below func(n int) int) {
	for i := len(l) - 1; i > 0; i-- {
		j := below(i + 1)
		l[i], l[j] = l[j], l[i]
	}
}

// Draw is k numbers from 0 to n - 1; none, if n or k is below 1 or k above
// 2^16, and nothing is drawn.
func (d *Dice) Draw(n, k int) []int {
	if n < 1 || k < 1 || k > mostDrawn {
		return nil
	}
	drawn := make([]int, k)
	for i := range drawn {
		drawn[i] = d.Below(n)
	}
	return drawn
}
