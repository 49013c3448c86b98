package field_test

import (
	"bytes"
	"encoding/hex"
	"math/big"
	"slices"
	"testing"

	"avouch/api"
	"avouch/field"
)

// P2.1
func TestPrime(t *testing.T) {
	p := field.Prime()
	want := "010000f093f5e143" + "9170b97948e83328" + "5d588181b64550b8" + "29a031e1724e6430"
	if got := hex.EncodeToString(p[:]); got != want {
		t.Errorf("Prime: %s", got)
	}
	p[0] = 9
	if again := field.Prime(); again[0] != 1 {
		t.Errorf("Prime is no new memory: %v", again)
	}
}

// P2.1
func TestFromBytesAndBack(t *testing.T) {
	for _, a := range someNumbers(dice(), 500) {
		b := bytesOf(a, 32)
		e, err := field.FromBytes(b)
		if err != api.OK {
			t.Fatalf("FromBytes of %v: error %d", a, err)
		}
		if got := e.Bytes(); !bytes.Equal(got[:], b) {
			t.Errorf("Bytes: %v, wanted %v", got, b)
		}
	}
}

// P2.1: a number is told from p by its highest word that differs, in each of the words.
func TestFromBytesAroundPrime(t *testing.T) {
	p := prime()
	for _, bits := range []int{0, 1, 63, 64, 100, 128, 191, 192, 200, 252} {
		step := powerOfTwo(bits)
		less := new(big.Int).Sub(p, step)
		expect(t, "below p", elementOf(t, less), less)
		expectRefused(t, bytesOf(new(big.Int).Add(p, step), 32), api.ErrCanon)
	}
	expectRefused(t, bytesOf(p, 32), api.ErrCanon)
	expectRefused(t, bytesOf(new(big.Int).Lsh(p, 1), 32), api.ErrCanon)
	for _, bits := range []int{254, 255} {
		expectRefused(t, bytesOf(powerOfTwo(bits), 32), api.ErrCanon)
	}
	expectRefused(t, bytes.Repeat([]byte{255}, 32), api.ErrCanon)
}

// P2.1; K2, as ErrArg is named ahead of ErrCanon.
func TestFromBytesOfOtherLengths(t *testing.T) {
	for _, size := range []int{0, 1, 8, 24, 30, 31, 33, 34, 40, 64, 96} {
		expectRefused(t, make([]byte, size), api.ErrArg)
		expectRefused(t, bytes.Repeat([]byte{255}, size), api.ErrArg)
		expectRefused(t, bytesOf(big.NewInt(5), size), api.ErrArg)
	}
	expectRefused(t, nil, api.ErrArg)
}

// K3, of P2.1
func expectRefused(t *testing.T, b []byte, want api.Errno) {
	t.Helper()
	e, err := field.FromBytes(b)
	if err != want {
		t.Errorf("FromBytes(%v): error %d, wanted %d", b, err, want)
	}
	if !e.IsZero() || e.Bytes() != [32]byte{} {
		t.Errorf("FromBytes(%v): not the zero Element beside the error", b)
	}
}

// P2.1
func TestFromUint64(t *testing.T) {
	for _, v := range []uint64{0, 1, 2, 255, 256, 1<<32 - 1, 1 << 32, 1 << 63, 0x43e1f593f0000001, top - 1, top} {
		expect(t, "FromUint64", field.FromUint64(v), new(big.Int).SetUint64(v))
	}
}

// P2.1
func TestFromWideOfAnyLength(t *testing.T) {
	r := dice()
	for size := range 130 {
		drawn := make([]byte, size)
		r.Read(drawn)
		for _, b := range [][]byte{make([]byte, size), bytes.Repeat([]byte{255}, size), drawn} {
			expect(t, "FromWide", field.FromWide(b), rest(numberOf(b)))
		}
	}
	long := make([]byte, 20001)
	r.Read(long)
	expect(t, "FromWide of a long one", field.FromWide(long), rest(numberOf(long)))
	expect(t, "FromWide of none", field.FromWide(nil), big.NewInt(0))
}

// P2.1
func TestFromWideAroundMultiples(t *testing.T) {
	for _, factor := range []*big.Int{big.NewInt(1), big.NewInt(2), big.NewInt(5), powerOfTwo(64), prime(), powerOfTwo(300)} {
		multiple := new(big.Int).Mul(prime(), factor)
		expect(t, "a multiple of p", field.FromWide(bytesOf(multiple, 80)), big.NewInt(0))
		expect(t, "one more", field.FromWide(bytesOf(above(multiple, 1), 80)), big.NewInt(1))
		expect(t, "one less", field.FromWide(bytesOf(above(multiple, -1), 80)), above(prime(), -1))
	}
}

// P2.1: bytes that are 0 at the end change nothing.
func TestFromWideWithZerosBehind(t *testing.T) {
	for _, size := range []int{1, 8, 9, 31, 32, 33, 100} {
		expect(t, "FromWide", field.FromWide(bytesOf(big.NewInt(200), size)), big.NewInt(200))
	}
}

// K5, of P2.1
func TestBytesAreNeitherChangedNorKept(t *testing.T) {
	b := bytesOf(powerOfTwo(200), 32)
	before := slices.Clone(b)
	e, _ := field.FromBytes(b)
	f := field.FromWide(b)
	if !bytes.Equal(b, before) {
		t.Errorf("the bytes were changed: %v", b)
	}
	clear(b)
	expect(t, "FromBytes", e, powerOfTwo(200))
	expect(t, "FromWide", f, powerOfTwo(200))
}

// The zero Element is 0.
func TestZeroElement(t *testing.T) {
	expect(t, "the zero Element", field.Element{}, big.NewInt(0))
	if !(field.Element{}).Equal(field.FromUint64(0)) {
		t.Error("the zero Element isn't that of 0")
	}
}
