package keccak_test

import (
	"bytes"
	"crypto/sha3"
	"testing"

	"avouch/api"
	"avouch/keccak"
)

// The chapter's example.
func TestExample(t *testing.T) {
	if got := (keccak.State{}).Permute()[0]; got != 0xF1258F7940E1DDE7 {
		t.Errorf("the first lane is %016X", got)
	}
}

// The chapter's types.
func TestConstantsOfThePackage(t *testing.T) {
	if keccak.Rounds != 24 || keccak.Size != 200 || len(keccak.State{}) != 25 {
		t.Error(keccak.Rounds, keccak.Size, len(keccak.State{}))
	}
}

// unlikeBytes are 200 of which no two are the same.
func unlikeBytes() []byte {
	b := make([]byte, 200)
	for i := range b {
		b[i] = byte(i + 1)
	}
	return b
}

// P6.1
func TestOfBytes(t *testing.T) {
	expectRead(t, make([]byte, 200), keccak.State{})
	expectRead(t, bytes.Repeat([]byte{255}, 200), filled(top))
	want := keccak.State{}
	for i := range want {
		// The bytes of a lane are 8 i + 1 to 8 i + 8, the lowest one first.
		want[i] = 0x0807060504030201 + uint64(8*i)*0x0101010101010101
	}
	expectRead(t, unlikeBytes(), want)
}

// P6.1: each byte goes to its own place alone.
func TestOfBytesByteByByte(t *testing.T) {
	for i := range 200 {
		b := make([]byte, 200)
		b[i] = 0xA5
		var want keccak.State
		want[i/8] = 0xA5 << (8 * (i % 8))
		expectRead(t, b, want)
	}
}

func expectRead(t *testing.T, b []byte, want keccak.State) {
	t.Helper()
	s, err := keccak.OfBytes(b)
	if err != api.OK {
		t.Errorf("OfBytes: error %d", err)
	}
	expect(t, "OfBytes", s, want)
	if got := s.Bytes(); !bytes.Equal(got[:], b) {
		t.Errorf("Bytes: %x, wanted %x", got, b)
	}
}

// P6.1; K3
func TestOfBytesOfOtherLengths(t *testing.T) {
	expectRefused(t, nil)
	for _, size := range []int{0, 1, 8, 25, 192, 198, 199, 201, 202, 208, 400, 1600} {
		expectRefused(t, make([]byte, size))
		expectRefused(t, bytes.Repeat([]byte{255}, size))
	}
	// What lies behind a list's end is no part of it.
	expectRefused(t, bytes.Repeat([]byte{255}, 200)[:199])
	expectRefused(t, make([]byte, 0, 200))
}

func expectRefused(t *testing.T, b []byte) {
	t.Helper()
	s, err := keccak.OfBytes(b)
	if err != api.ErrArg {
		t.Errorf("OfBytes of %d bytes: error %d", len(b), err)
	}
	expect(t, "beside the error", s, keccak.State{})
}

// P6.1
func TestBytes(t *testing.T) {
	if (keccak.State{}).Bytes() != [200]byte{} {
		t.Error("the zero State's bytes aren't 0")
	}
	r := dice()
	for range 50 {
		s := anyState(r)
		b := s.Bytes()
		for i, v := range b {
			if v != byte(s[i/8]>>(8*(i%8))) {
				t.Fatalf("byte %d of %x is %x", i, s, v)
			}
		}
		expectRead(t, b[:], s)
	}
}

// K5, of P6.1
func TestBytesAreNeitherChangedNorKept(t *testing.T) {
	b := unlikeBytes()
	s, _ := keccak.OfBytes(b)
	if !bytes.Equal(b, unlikeBytes()) {
		t.Error("OfBytes changed its argument")
	}
	was := s
	clear(b)
	expect(t, "behind the clearing", s, was)
	out := s.Bytes()
	clear(out[:])
	expect(t, "behind the clearing of its bytes", s, was)
	if again := s.Bytes(); !bytes.Equal(again[:], unlikeBytes()) {
		t.Error("Bytes answers what it answered before")
	}
}

// P6.2
func TestConstant(t *testing.T) {
	for round := range 24 {
		if got, want := keccak.Constant(round), constantByRule(round); got != want {
			t.Errorf("Constant(%d): %016x, wanted %016x", round, got, want)
		}
	}
	if keccak.Constant(0) != 1 || keccak.Constant(1) != 0x8082 || keccak.Constant(23) != 0x8000000080008008 {
		t.Error("not the constants of FIPS 202")
	}
}

// P6.2
func TestConstantOfOtherRounds(t *testing.T) {
	for _, round := range otherRounds() {
		if got := keccak.Constant(round); got != 0 {
			t.Errorf("Constant(%d): %016x", round, got)
		}
	}
}

// P6.2
func TestPermute(t *testing.T) {
	expect(t, "of nothing", keccak.State{}.Permute(), modelPermute(keccak.State{}))
	expect(t, "of ones", filled(top).Permute(), modelPermute(filled(top)))
	for i := range 25 {
		for _, z := range []int{0, 1, 31, 32, 63} {
			var s keccak.State
			s[i] = 1 << z
			expect(t, "of one bit", s.Permute(), modelPermute(s))
		}
	}
	r := dice()
	for range 50 {
		s := anyState(r)
		expect(t, "of any", s.Permute(), modelPermute(s))
	}
}

// P6.2: the rounds 0 to 23, in order, and no others.
func TestPermuteIsTheRounds(t *testing.T) {
	r := dice()
	for _, s := range []keccak.State{{}, filled(top), anyState(r), anyState(r), anyState(r)} {
		forth, back := s, s
		for round := range 24 {
			forth, back = forth.Round(round), back.Round(23-round)
		}
		expect(t, "rounds", s.Permute(), forth)
		if s.Permute() == back || s.Permute() == forth.Round(24) {
			t.Error("other rounds, the same state")
		}
	}
}

// P6.2: the library's own permutation, seen through SHAKE128, whose first 168 bytes come of one Permute.
func TestPermuteAgainstTheLibrary(t *testing.T) {
	r := dice()
	for size := range 168 {
		message := make([]byte, size)
		r.Read(message)
		block := make([]byte, 200)
		copy(block, message)
		block[size] ^= 0x1F
		block[167] ^= 0x80
		s, _ := keccak.OfBytes(block)
		got := s.Permute().Bytes()
		if want := sha3.SumSHAKE128(message, 168); !bytes.Equal(got[:168], want) {
			t.Fatalf("%d bytes: %x, wanted %x", size, got[:168], want)
		}
	}
}

// P6.2: a permutation of the zero state's permutation, as Keccak's designers tell it.
func TestPermuteTwice(t *testing.T) {
	s := keccak.State{}.Permute().Permute()
	if s[0] != 0x2D5C954DF96ECB3C || s[1] != 0x6A332CD07057B56D || s[2] != 0x093D8D1270D76B6C {
		t.Errorf("%016X", s[:3])
	}
}

// K5 and K6, of P6.2
func TestStatesAreAsTheyWere(t *testing.T) {
	r := dice()
	s := anyState(r)
	was := s
	first, round, b := s.Permute(), s.Round(7), s.Bytes()
	expect(t, "the state", s, was)
	anyState(r).Permute()
	filled(top).Round(3)
	expect(t, "Permute again", s.Permute(), first)
	expect(t, "Round again", s.Round(7), round)
	if s.Bytes() != b {
		t.Error("Bytes again")
	}
}
