package pattern_test

import (
	"slices"
	"testing"
	"time"

	"avouch/api"
	"avouch/item"
	"avouch/pattern"
)

// P13.1: no bytes are the pattern without items (the chapter's example).
func TestParseOfNoBytes(t *testing.T) {
	parsed(t, nil, nil)
	parsed(t, []byte{}, nil)
	parsed(t, []byte{1, 2, 3}[:0], nil)
}

// P13.1: bytes laid out by hand.
func TestParseKnown(t *testing.T) {
	parsed(t, []byte{1, 1, 5, 0, 0, 0, 1, 0, 97}, []item.Item{{Kind: item.Absorb, Type: item.Bytes, Count: 5, Label: "a"}})
	parsed(t, []byte{
		3, 0, 1, 0, 0, 0, 0, 0,
		2, 3, 2, 1, 0, 0, 3, 0, 0, 255, 128,
		1, 4, 0, 0, 16, 0, 1, 0, 1,
	}, []item.Item{
		{Kind: item.Ratchet, Type: item.Plain, Count: 1},
		{Kind: item.Squeeze, Type: item.Field, Count: 258, Label: "\x00\xff\x80"},
		{Kind: item.Absorb, Type: item.Group, Count: 1 << 20, Label: "\x01"},
	})
}

// P13.1: of one item's bytes that item, of each kind and type, at counts' and labels' edges; of all of theirs all of them.
func TestParseOfGoodItems(t *testing.T) {
	l := goodItems()
	for i, x := range l {
		parsed(t, bytesOf(x), []item.Item{x})
		behind := l[(i*7+1)%len(l)]
		parsed(t, bytesOf(x, behind), []item.Item{x, behind})
	}
	parsed(t, bytesOf(l...), l)
}

// P13.1: of the bytes of any lists their items; among them labels of each length.
func TestParseOfAnyItems(t *testing.T) {
	r := dice()
	for n := range 200 {
		l := anyItems(r, n)
		parsed(t, bytesOf(l...), l)
	}
	var l []item.Item
	for n := range 256 {
		l = append(l, item.Item{Kind: 1, Type: 1 + n%4, Count: 1 + n, Label: long[n : 2*n]})
	}
	parsed(t, bytesOf(l...), l)
	slices.Reverse(l)
	parsed(t, bytesOf(l...), l)
}

// P13.1: 1023 and 1024 items are a pattern, also of the longest labels.
func TestParseOfMostItems(t *testing.T) {
	l := anyItems(dice(), 1024)
	parsed(t, bytesOf(l[:1023]...), l[:1023])
	parsed(t, bytesOf(l...), l)
	for i := range l {
		l[i].Label = long[i : i+255]
	}
	parsed(t, bytesOf(l...), l)
}

// P13.1: a 1025th item is one too many, whatever the bytes behind the 1024th one are.
func TestParseOfTooManyItems(t *testing.T) {
	b := bytesOf(anyItems(dice(), 1024)...)
	good := bytesOf(item.Item{Kind: 1, Type: 1, Count: 5, Label: "abc"})
	for end := 1; end <= len(good); end++ {
		notParsed(t, slices.Concat(b, good[:end]), 1024, api.ErrMany)
	}
	for _, c := range wrongItems() {
		notParsed(t, slices.Concat(b, bytesOf(c.x)), 1024, api.ErrMany)
	}
	for _, x := range []byte{0, 1, 3, 9, 255} {
		notParsed(t, slices.Concat(b, []byte{x}), 1024, api.ErrMany)
	}
	notParsed(t, slices.Concat(b, b), 1024, api.ErrMany)
	notParsed(t, slices.Concat(b, b, b, good[:3]), 1024, api.ErrMany)
}

// P13.1: bytes that end within an item, at each place of it: the item's place and ErrShort. Those that end behind an item
// are a pattern.
func TestParseOfBytesThatEnd(t *testing.T) {
	l := []item.Item{
		{Kind: 1, Type: 1, Count: 66051, Label: long[:255]},
		{Kind: 3, Type: 0, Count: 1},
		{Kind: 2, Type: 3, Count: 258, Label: "a"},
		{Kind: 1, Type: 4, Count: 1, Label: "two words"},
	}
	b := bytesOf(l...)
	for place := range l {
		begin, end := len(bytesOf(l[:place]...)), len(bytesOf(l[:place+1]...))
		parsed(t, b[:begin], l[:place])
		for cut := begin + 1; cut < end; cut++ {
			notParsed(t, b[:cut], place, api.ErrShort)
		}
	}
	parsed(t, b, l)
}

// P13.1: bytes that end within the 1024th item.
func TestParseOfBytesThatEndInTheLastItem(t *testing.T) {
	b := bytesOf(anyItems(dice(), 1023)...)
	last := bytesOf(item.Item{Kind: 1, Type: 1, Count: 5, Label: "abc"})
	for end := 1; end < len(last); end++ {
		notParsed(t, slices.Concat(b, last[:end]), 1023, api.ErrShort)
	}
}

// P13.1: a wrong item at the first, a middle and the last place, with bytes behind it and without: its place and its error.
func TestParseOfWrongItems(t *testing.T) {
	l := anyItems(dice(), 9)
	for _, c := range wrongItems() {
		if wrong(c.x) != c.want {
			t.Fatal(told(c.x), "is not wrong as it should be")
		}
		notParsed(t, bytesOf(c.x), 0, c.want)
		for _, place := range []int{0, 4, 8} {
			b := bytesOf(with(l, place, c.x)...)
			notParsed(t, b, place, c.want)
			notParsed(t, append(b, 7), place, c.want)
			notParsed(t, bytesOf(append(slices.Clone(l[:place]), c.x)...), place, c.want)
		}
	}
	full := anyItems(dice(), 1024)
	for _, c := range wrongItems() {
		for _, place := range []int{0, 512, 1023} {
			b := bytesOf(with(full, place, c.x)...)
			notParsed(t, b, place, c.want)
			notParsed(t, slices.Concat(b, b), place, c.want)
		}
	}
}

// P13.1, of P12.2: bytes that end within a wrong item end too early, whatever is wrong with it.
func TestParseOfWrongItemsThatEnd(t *testing.T) {
	ahead := bytesOf(anyItems(dice(), 3)...)
	for _, c := range wrongItems() {
		b := bytesOf(c.x)
		for _, end := range []int{1, 2, 5, 6, 7, 8, 8 + 255, 8 + 256, len(b) - 1} {
			if end < len(b) {
				notParsed(t, b[:end], 0, api.ErrShort)
				notParsed(t, slices.Concat(ahead, b[:end]), 3, api.ErrShort)
			}
		}
	}
}

// P13.1, K2: of several wrong items the first one is told.
func TestParseTellsTheFirstWrongItem(t *testing.T) {
	l := anyItems(dice(), 10)
	for _, one := range wrongItems() {
		for _, two := range wrongItems() {
			b := bytesOf(with(with(l, 3, one.x), 6, two.x)...)
			notParsed(t, b, 3, one.want)
			notParsed(t, b[:len(b)-1], 3, one.want)
			notParsed(t, bytesOf(one.x, two.x), 0, one.want)
		}
	}
}

// P13.1, K1: of any bytes what the chapter says of them.
func TestParseOfAnyBytes(t *testing.T) {
	r := dice()
	pick := []byte{0, 1, 2, 3, 4, 5, 255}
	errs := map[api.Errno]int{}
	for range 20000 {
		b := bytesOf(anyItems(r, r.Intn(4))...)
		if r.Intn(8) == 0 {
			b = append(b, bytesOf(item.Item{Kind: 1, Type: 1, Count: 1, Label: long[:250+r.Intn(12)]})...)
		}
		for range r.Intn(3) {
			if len(b) > 0 {
				b[r.Intn(len(b))] = pick[r.Intn(len(pick))]
			}
		}
		b = b[:len(b)-r.Intn(min(len(b), 2)+1)]
		want, place, err := read(b)
		l, at, got := pattern.Parse(b)
		if !slices.Equal(l, want) || at != place || got != err {
			t.Fatalf("%d: place %d, error %d, not %d and %d", b, at, got, place, err)
		}
		errs[err]++
	}
	for _, err := range []api.Errno{api.OK, api.ErrShort, api.ErrKind, api.ErrType, api.ErrCount, api.ErrLabel} {
		if errs[err] == 0 {
			t.Error("never tried: error", err)
		}
	}
}

// read is Parse by the chapter's words, of fewer items than a pattern may have.
func read(b []byte) ([]item.Item, int, api.Errno) {
	var l []item.Item
	for len(b) > 0 {
		if len(b) < 8 || len(b) < 8+int(b[6])+256*int(b[7]) {
			return nil, len(l), api.ErrShort
		}
		end := 8 + int(b[6]) + 256*int(b[7])
		count := int(b[2]) + int(b[3])<<8 + int(b[4])<<16 + int(b[5])<<24
		x := item.Item{Kind: int(b[0]), Type: int(b[1]), Count: count, Label: string(b[8:end])}
		if wrong(x) != api.OK {
			return nil, len(l), wrong(x)
		}
		l, b = append(l, x), b[end:]
	}
	return l, -1, api.OK
}

// K7, of P13.1: many bytes behind a pattern take no time of their own.
func TestParseOfManyBytes(t *testing.T) {
	b := append(bytesOf(anyItems(dice(), 1024)...), make([]byte, 64<<20)...)
	begin := time.Now()
	for range 20 {
		notParsed(t, b, 1024, api.ErrMany)
	}
	if took := time.Since(begin); took > 10*time.Second {
		t.Error(took)
	}
}
