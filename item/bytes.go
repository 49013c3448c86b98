package item

// How many bytes of an item tell what; the head is what stands ahead of the label.
const (
	countSize  = 4
	lengthSize = 2
	headSize   = 2 + countSize + lengthSize
)

// appendNumber lays a number's bytes behind others, the lowest one first.
func appendNumber(out []byte, n, size int) []byte {
	for range size {
		out = append(out, byte(n))
		n >>= 8
	}
	return out
}

// number gives the number of bytes, of which the first one is the lowest.
func number(b []byte) int {
	n := 0
	for i, x := range b {
		n |= int(x) << (8 * i)
	}
	return n
}

// readHead gives the item that a head tells, and how many bytes its label has.
func readHead(head []byte) (Item, int) {
	count, length := head[2:2+countSize], head[2+countSize:]
	return Item{Kind: int(head[0]), Type: int(head[1]), Count: number(count)}, number(length)
}

// cut gives the first bytes, whose slice ends with them, and those behind them, if there are so many.
func cut(b []byte, size int) ([]byte, []byte, bool) {
	if size > len(b) {
		return nil, nil, false
	}
	return b[:size:size], b[size:], true
}

// copyOf gives the same bytes in new memory.
func copyOf(b []byte) []byte {
	// Append may leave room behind the bytes, which two who append to the answer would share.
	out := append([]byte(nil), b...)
	return out[:len(out):len(out)]
}
