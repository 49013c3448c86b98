package wide

import "avouch/limb"

// prime is P.
var prime = Number{
	0xffffffffffffffff, 0xf44c42e9a63a3620, 0xe485b576625e7ec6, 0x4fe1356d6d51c245,
	0x302b0a6df25f1437, 0xef9519b3cd3a431b, 0x514a08798e3404dd, 0x020bbea63b139b22,
	0x29024e088a67cc74, 0xc4c6628b80dc1cd1, 0xc90fdaa22168c234, 0xffffffffffffffff,
}

// half gives the half of n, or of n - 1 if n is odd.
func half(n Number) Number {
	for i := range size - 1 {
		n[i] = n[i]>>1 | n[i+1]<<63
	}
	n[size-1] >>= 1
	return n
}

// ringOf gives the ring of P or of q. Both are what a modulus must be: odd, and their last word isn't 0.
func ringOf(n Number) *Ring {
	m, _ := limb.New(n[:])
	return &Ring{m}
}
