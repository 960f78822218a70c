package nat

// Root is the greatest number whose square is not above a.
func (a Nat) Root() Nat {
	if a.many == nil {
		return Of(rootOfWord(a.one))
	}
	// Half of the root's bits are those of the root of a's upper half. One more
	// there makes it too great; Newton's steps fall from that to the root.
	half := a.Bits() / 4
	root := a.down(2 * half).Root().Add(Of(1)).up(half)
	for {
		q, _, _ := a.Div(root)
		next := root.Add(q).down(1)
		if next.Cmp(root) >= 0 {
			return root
		}
		root = next
	}
}

// rootOfWord finds the root's 32 bits one by one, the highest first.
func rootOfWord(n uint64) uint64 {
	const rootBits = wordBits / 2
	var root uint64
	for i := range rootBits {
		more := root | 1<<(rootBits-1-i)
		if more*more <= n {
			root = more
		}
	}
	return root
}
