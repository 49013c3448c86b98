package digest_test

import (
	"bytes"
	"encoding/hex"
	"slices"
	"strings"
	"testing"

	"avouch/digest"
)

// The chapter's example.
func TestExample(t *testing.T) {
	d := digest.Sum()
	if !bytes.Equal(d[:4], []byte{167, 255, 198, 248}) {
		t.Errorf("%v", d[:4])
	}
}

// The chapter's types.
func TestConstantsOfThePackage(t *testing.T) {
	if digest.Size != 32 {
		t.Error(digest.Size)
	}
}

// P7.1: digests that are known from elsewhere.
func TestKnownDigests(t *testing.T) {
	known := []struct {
		bytes, digest string
	}{
		{"", "a7ffc6f8bf1ed76651c14756a061d662f580ff4de43b49fa82d80a4b80f8434a"},
		{"abc", "3a985da74fe225b2045c172d6bd390bd855f086e3e9d525b46bfe24511431532"},
		{"abcdbcdecdefdefgefghfghighijhijkijkljklmklmnlmnomnopnopq", "41c0dba2a9d6240849100376a8235e2c82e1b9998a999e21db32dd97496d3376"},
		{strings.Repeat("\xA3", 200), "79f38adec5c20307a98ef76e8324afbfd46cfd81b22e3973c65fa1bd9de31787"},
	}
	for _, k := range known {
		d := digest.Sum([]byte(k.bytes))
		if got := hex.EncodeToString(d[:]); got != k.digest {
			t.Errorf("of %q: %s, wanted %s", k.bytes, got, k.digest)
		}
	}
}

// P7.1; K1: what has no bytes counts as nothing, wherever it stands.
func TestSumOfNoBytes(t *testing.T) {
	nothing := model(nil)
	expect(t, "no parts", digest.Sum(), nothing)
	expect(t, "no list of parts", digest.Sum(nil...), nothing)
	expect(t, "an empty list of parts", digest.Sum([][]byte{}...), nothing)
	expect(t, "one nil part", digest.Sum([]byte(nil)), nothing)
	expect(t, "one empty part", digest.Sum([]byte{}), nothing)
	expect(t, "several", digest.Sum(nil, []byte{}, nil, make([]byte, 0, 300)), nothing)
	// One byte of 0 is more than nothing.
	if digest.Sum([]byte{0}) == nothing {
		t.Error("a zero counts for nothing")
	}
}

// P7.1
func TestSumOfOnePart(t *testing.T) {
	r := dice()
	for size := range 4*rate + 3 {
		b := anyBytes(r, size)
		expectOf(t, "any", digest.Sum(b), b)
	}
	for _, size := range []int{2000, 4999, 20*rate - 1, 20 * rate, 20*rate + 1, 10000, 100003} {
		b := anyBytes(r, size)
		expectOf(t, "many", digest.Sum(b), b)
	}
}

// P7.1: bytes that look like what comes behind them.
func TestSumAtTheEdges(t *testing.T) {
	for _, size := range edges() {
		for _, fill := range []byte{0, 6, 128, 134, 255} {
			b := bytes.Repeat([]byte{fill}, size)
			expectOf(t, "filled", digest.Sum(b), b)
		}
	}
	for size := range 3 * rate {
		b := make([]byte, size)
		if digest.Sum(b) == digest.Sum(b, []byte{6}) || digest.Sum(b) == digest.Sum(b, []byte{0}) || digest.Sum(b) == digest.Sum(b, []byte{134}) {
			t.Errorf("%d zeros: a byte more, the same digest", size)
		}
	}
}

// P7.1: every byte tells, wherever it stands.
func TestEveryByteTells(t *testing.T) {
	seen := map[[32]byte]int{digest.Sum(make([]byte, 300)): -1}
	for i := range 300 {
		b := make([]byte, 300)
		b[i] = 1
		d := digest.Sum(b)
		if at, ok := seen[d]; ok {
			t.Errorf("bytes %d and %d tell the same", at, i)
		}
		seen[d] = i
	}
}

// P7.1: however the bytes are cut.
func TestSumOfTwoParts(t *testing.T) {
	r := dice()
	for _, size := range []int{1, 134, 135, 136, 137, 271, 272, 273} {
		b := anyBytes(r, size)
		want := model(b)
		for cut := range size + 1 {
			expect(t, "cut", digest.Sum(b[:cut], b[cut:]), want)
		}
	}
}

// P7.1
func TestSumOfManyParts(t *testing.T) {
	r := dice()
	for range 200 {
		b := anyBytes(r, r.Intn(1500))
		parts := [][]byte{nil}
		for rest := b; len(rest) > 0; {
			n := r.Intn(min(len(rest), 300) + 1)
			parts = append(parts, rest[:n], nil, []byte{})
			rest = rest[n:]
		}
		expectOf(t, "parts", digest.Sum(parts...), b)
	}
	single := anyBytes(r, 3000)
	parts := [][]byte{}
	for i := range single {
		parts = append(parts, single[i:i+1])
	}
	expectOf(t, "parts of one byte", digest.Sum(parts...), single)
}

// P7.1: the parts' order tells, where they end doesn't.
func TestSumOfPartsInOrder(t *testing.T) {
	one, other := []byte("one"), []byte("other")
	expectOf(t, "in order", digest.Sum(one, other), []byte("oneother"))
	expectOf(t, "the other way", digest.Sum(other, one), []byte("otherone"))
	expectOf(t, "one part twice", digest.Sum(one, one), []byte("oneone"))
	expect(t, "cut elsewhere", digest.Sum([]byte("oneo"), []byte("ther")), digest.Sum(one, other))
}

// K5, of P7.1
func TestPartsAreAsTheyWere(t *testing.T) {
	r := dice()
	for _, size := range edges() {
		// What lies behind a part's end is no part of it, and stays, too.
		room := anyBytes(r, size+300)
		was := slices.Clone(room)
		parts := [][]byte{room[:size], nil, room[:size/2]}
		d := digest.Sum(parts...)
		expectOf(t, "parts", d, append(slices.Clone(was[:size]), was[:size/2]...))
		if !bytes.Equal(room, was) {
			t.Errorf("%d bytes: Sum changed a part", size)
		}
		if len(parts) != 3 || len(parts[0]) != size || parts[1] != nil || len(parts[2]) != size/2 {
			t.Errorf("%d bytes: Sum changed its list", size)
		}
		kept := d
		clear(room)
		digest.Sum(parts...)
		expect(t, "behind other calls", d, kept)
	}
}

// K6, of P7.1
func TestSumAgain(t *testing.T) {
	r := dice()
	for _, size := range edges() {
		b := anyBytes(r, size)
		first := digest.Sum(b)
		digest.Sum(anyBytes(r, 500))
		new(digest.Hash).Write(b)
		expect(t, "again", digest.Sum(b), first)
	}
}
