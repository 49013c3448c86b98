package digest_test

import (
	"bytes"
	"slices"
	"testing"

	"avouch/digest"
)

// P7.1: the zero Hash is ready.
func TestZeroHash(t *testing.T) {
	var h digest.Hash
	expectOf(t, "without a Write", h.Sum(), nil)
	expectOf(t, "once more", h.Sum(), nil)
	h.Write([]byte("abc"))
	expectOf(t, "behind a Sum of nothing", h.Sum(), []byte("abc"))
}

// P7.1; K1
func TestWriteOfNoBytes(t *testing.T) {
	r := dice()
	for _, size := range edges() {
		b := anyBytes(r, size)
		var h digest.Hash
		h.Write(nil)
		h.Write([]byte{})
		h.Write(b)
		h.Write(make([]byte, 0, 300))
		h.Write(nil)
		expectOf(t, "nothing about it", h.Sum(), b)
		h.Write(nil)
		expectOf(t, "nothing behind a Sum", h.Sum(), b)
	}
}

// P7.1: in pieces of less than a block, of just one, and of more.
func TestWriteInPieces(t *testing.T) {
	r := dice()
	for _, size := range append(edges(), 5000) {
		b := anyBytes(r, size)
		want := model(b)
		for _, piece := range []int{1, 2, 3, 8, 17, 67, 68, 134, 135, 136, 137, 200, 271, 272, 273, 1000} {
			expect(t, "pieces", written(b, piece).Sum(), want)
		}
	}
}

// P7.1: a block is filled just by the end of a Write, or within it, whatever waits.
func TestWriteBehindWhatWaits(t *testing.T) {
	r := dice()
	b := anyBytes(r, 4*rate)
	for waits := range rate + 2 {
		for _, end := range []int{rate - 1, rate, rate + 1, 2*rate - 1, 2 * rate, 2*rate + 1, 3 * rate} {
			if end < waits {
				continue
			}
			var h digest.Hash
			h.Write(b[:waits])
			h.Write(b[waits:end])
			expect(t, "two Writes", h.Sum(), model(b[:end]))
			h.Write(b[end : end+1])
			expect(t, "and a byte", h.Sum(), model(b[:end+1]))
		}
	}
}

// P7.1
func TestWriteInAnyPieces(t *testing.T) {
	r := dice()
	for range 200 {
		var h digest.Hash
		all := []byte{}
		for range r.Intn(12) {
			b := anyBytes(r, r.Intn(400))
			h.Write(b)
			all = append(all, b...)
			if r.Intn(3) == 0 {
				expectOf(t, "on the way", h.Sum(), all)
			}
		}
		expectOf(t, "in the end", h.Sum(), all)
		expect(t, "by Sum", digest.Sum(all), h.Sum())
	}
}

// P7.1: a Sum takes nothing, and more may be taken behind it.
func TestSumBetweenWrites(t *testing.T) {
	r := dice()
	b := anyBytes(r, 3*rate+2)
	var h digest.Hash
	for i := range b {
		h.Write(b[i : i+1])
		expectOf(t, "so far", h.Sum(), b[:i+1])
		expectOf(t, "so far, again", h.Sum(), b[:i+1])
	}
	for _, size := range edges() {
		first, second := anyBytes(r, size), anyBytes(r, 300)
		h := written(first, 100)
		expectOf(t, "ahead", h.Sum(), first)
		h.Write(second)
		expectOf(t, "behind", h.Sum(), append(slices.Clone(first), second...))
	}
}

// P7.1: what waited once isn't seen in a later block.
func TestWhatWaitedIsGone(t *testing.T) {
	for size := range 2*rate + 2 {
		b := append(bytes.Repeat([]byte{255}, size), 1)
		h := written(b[:size], 50)
		h.Write(b[size:])
		expectOf(t, "short behind long", h.Sum(), b)
	}
}

// K6, of P7.1: each by itself.
func TestTwoHashesByTurns(t *testing.T) {
	r := dice()
	var one, other digest.Hash
	var ones, others []byte
	for range 60 {
		a, b := anyBytes(r, r.Intn(150)), anyBytes(r, r.Intn(300))
		one.Write(a)
		other.Write(b)
		ones, others = append(ones, a...), append(others, b...)
		expectOf(t, "the one", one.Sum(), ones)
		expectOf(t, "the other", other.Sum(), others)
	}
	var third digest.Hash
	expectOf(t, "a third one", third.Sum(), nil)
}

// K5, of P7.1
func TestWrittenBytesAreNeitherChangedNorKept(t *testing.T) {
	r := dice()
	for _, size := range edges() {
		room := anyBytes(r, size+300)
		was := slices.Clone(room)
		var h digest.Hash
		h.Write(room[:size])
		first := h.Sum()
		if !bytes.Equal(room, was) {
			t.Errorf("%d bytes: they were changed", size)
		}
		for i := range room {
			room[i] ^= 255
		}
		expectOf(t, "behind a change", h.Sum(), was[:size])
		h.Write(was[size:])
		expectOf(t, "and a Write", h.Sum(), was)
		expectOf(t, "the first digest", first, was[:size])
	}
}

// K5, of P7.1: one list may be filled anew for each Write.
func TestOneListForManyWrites(t *testing.T) {
	r := dice()
	for _, size := range []int{1, 5, 100, 135, 136, 137, 272} {
		var h digest.Hash
		all, b := []byte{}, make([]byte, size)
		for range 7 {
			r.Read(b)
			h.Write(b)
			all = append(all, b...)
		}
		expectOf(t, "filled anew", h.Sum(), all)
	}
}

// K5, of P7.1
func TestDigestsStay(t *testing.T) {
	var h digest.Hash
	h.Write([]byte("abc"))
	d := h.Sum()
	kept := d
	h.Write(make([]byte, 500))
	h.Sum()
	expect(t, "behind more Writes", d, kept)
	clear(d[:])
	expectOf(t, "behind a change of a digest", h.Sum(), append([]byte("abc"), make([]byte, 500)...))
}
