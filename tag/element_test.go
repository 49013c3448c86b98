package tag_test

import (
	"math/big"
	"testing"

	"avouch/field"
	"avouch/tag"
)

// element looks that bytes have the element of that number.
func element(t *testing.T, b [32]byte, want *big.Int) {
	t.Helper()
	x := tag.Element(b)
	if x.Bytes() != low(want) {
		t.Errorf("%x: %x, wanted the number %d", b, x.Bytes(), want)
	}
}

// P14.1: of bytes about p.
func TestElementAboutThePrime(t *testing.T) {
	less := new(big.Int).Sub(prime(), big.NewInt(1))
	element(t, [32]byte{}, big.NewInt(0))
	element(t, [32]byte{1}, big.NewInt(1))
	element(t, about(-1), less)
	element(t, about(0), big.NewInt(0))
	element(t, about(1), big.NewInt(1))
	if !tag.Element(about(-1)).Equal(field.FromUint64(1).Neg()) {
		t.Error("p - 1 is another element")
	}
}

// P14.1: a single byte at the low end counts once, and one at the high end most.
func TestElementOfASingleByte(t *testing.T) {
	for _, b := range []int64{1, 2, 47, 48, 128, 255} {
		element(t, [32]byte{byte(b)}, big.NewInt(b))
		element(t, [32]byte{1: byte(b)}, big.NewInt(256*b))
		high := new(big.Int).Lsh(big.NewInt(b), 248)
		element(t, [32]byte{31: byte(b)}, high.Mod(high, prime()))
	}
}

// P14.1: of any bytes the rest modulo p, which is what layer 2 gives of them.
func TestElementOfAnyBytes(t *testing.T) {
	for _, b := range allTags() {
		n := number(b)
		element(t, b, n.Mod(n, prime()))
		if !tag.Element(b).Equal(field.FromWide(b[:])) {
			t.Errorf("%x: not what layer 2 gives", b)
		}
	}
}

// P14.1: bytes whose numbers have one rest have one element; all other ones have others.
func TestUnlikeElements(t *testing.T) {
	seen := map[[32]byte][32]byte{}
	for _, b := range allTags() {
		n := number(b)
		rest := low(n.Mod(n, prime()))
		x := tag.Element(b).Bytes()
		if was, there := seen[x]; there && was != rest {
			t.Errorf("%x has the element of another rest", b)
		}
		seen[x] = rest
	}
}
