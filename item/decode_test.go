package item_test

import (
	"bytes"
	"math"
	"slices"
	"testing"

	"avouch/api"
	"avouch/item"
)

// refused decodes bytes that must be refused, and looks that no answer stands beside the error.
func refused(t *testing.T, b []byte, want api.Errno) {
	t.Helper()
	x, behind, err := item.Decode(b)
	if err != want {
		t.Errorf("%d bytes, %d..: error %d, not %d", len(b), b[:min(len(b), 10)], err, want)
	}
	if x != (item.Item{}) || len(behind) != 0 {
		t.Errorf("%d bytes, %d..: %s and %d bytes beside error %d", len(b), b[:min(len(b), 10)], told(x), len(behind), err)
	}
}

// P12.2: of an item's bytes the item; of bytes behind them just those.
func TestDecode(t *testing.T) {
	for _, x := range goodItems() {
		own := bytesOf(x)
		for _, more := range [][]byte{nil, {7}, {0}, own, bytes.Repeat([]byte{255}, 300)} {
			y, behind, err := item.Decode(slices.Concat(own, more))
			if err != api.OK || y != x || !slices.Equal(behind, more) {
				t.Errorf("%s with %d bytes behind: %s, %d bytes, error %d", told(x), len(more), told(y), len(behind), err)
			}
		}
	}
}

// P12.2: bytes laid out by hand, the chapter's example among them.
func TestDecodeKnown(t *testing.T) {
	for _, c := range []struct {
		b      []byte
		x      item.Item
		behind []byte
	}{
		{[]byte{1, 1, 5, 0, 0, 0, 1, 0, 97}, item.Item{Kind: item.Absorb, Type: item.Bytes, Count: 5, Label: "a"}, nil},
		{[]byte{1, 1, 5, 0, 0, 0, 1, 0, 97, 98}, item.Item{Kind: item.Absorb, Type: item.Bytes, Count: 5, Label: "a"}, []byte{98}},
		{[]byte{1, 4, 0, 0, 16, 0, 0, 0}, item.Item{Kind: item.Absorb, Type: item.Group, Count: 1 << 20}, nil},
		{[]byte{2, 3, 2, 1, 0, 0, 0, 0, 1, 2, 3}, item.Item{Kind: item.Squeeze, Type: item.Field, Count: 258}, []byte{1, 2, 3}},
		{[]byte{3, 0, 1, 0, 0, 0, 3, 0, 0, 255, 128}, item.Item{Kind: item.Ratchet, Count: 1, Label: "\x00\xff\x80"}, nil},
	} {
		x, behind, err := item.Decode(c.b)
		if err != api.OK || x != c.x || !slices.Equal(behind, c.behind) {
			t.Errorf("%d: %s, %d, error %d", c.b, told(x), behind, err)
		}
	}
}

// P12.2: items one behind the other, each with a label of another length.
func TestDecodeOneByOne(t *testing.T) {
	r := dice()
	var l []item.Item
	var b []byte
	for n := range 256 {
		x := item.Item{Kind: item.Absorb, Type: 1 + r.Intn(4), Count: 1 + r.Intn(api.MaxCount), Label: anyLabel(r, n)}
		l = append(l, x)
		b = append(b, bytesOf(x)...)
	}
	for i, x := range l {
		y, behind, err := item.Decode(b)
		if err != api.OK || y != x {
			t.Fatalf("%d: %s, not %s, error %d", i, told(y), told(x), err)
		}
		b = behind
	}
	if len(b) != 0 {
		t.Error(len(b), "bytes behind the last item")
	}
}

// P12.2, K1: ErrShort of no bytes, and of bytes that end at each place within an item that may be.
func TestDecodeOfBytesThatEnd(t *testing.T) {
	refused(t, nil, api.ErrShort)
	refused(t, []byte{}, api.ErrShort)
	for _, size := range []int{0, 1, 2, 254, 255} {
		x := item.Item{Kind: item.Squeeze, Type: item.Bytes, Count: 66051, Label: long[:size]}
		b := bytesOf(x)
		for end := range b {
			refused(t, b[:end], api.ErrShort)
		}
	}
}

// P12.2: ErrShort also where the kind, the type, the count or the label's length is wrong, at each place where the bytes
// may end; with all bytes there, Check's error.
func TestDecodeOfWrongBytesThatEnd(t *testing.T) {
	heads := [][]byte{
		{0, 9, 0, 0, 0, 0}, {4, 1, 1, 0, 0, 0}, {255, 255, 255, 255, 255, 255},
		{1, 0, 1, 0, 0, 0}, {2, 4, 1, 0, 0, 0}, {3, 1, 1, 0, 0, 0},
		{1, 1, 0, 0, 0, 0}, {1, 1, 1, 0, 16, 0}, {3, 0, 2, 0, 0, 0},
		{1, 1, 5, 0, 0, 0},
	}
	wants := []api.Errno{
		api.ErrKind, api.ErrKind, api.ErrKind,
		api.ErrType, api.ErrType, api.ErrType,
		api.ErrCount, api.ErrCount, api.ErrCount,
		api.ErrLabel,
	}
	for i, head := range heads {
		for _, size := range []int{256, 257, 513} {
			b := append(slices.Clone(head), byte(size), byte(size>>8))
			b = append(b, long[:size]...)
			for end := range b {
				refused(t, b[:end], api.ErrShort)
			}
			refused(t, b, wants[i])
			refused(t, append(b, 1, 1), wants[i])
		}
		short := append(slices.Clone(head), 3, 0, 'a', 'b')
		for end := 0; end <= len(short); end++ {
			refused(t, short[:end], api.ErrShort)
		}
	}
}

// P12.2: with all bytes there, Check's error of that item, whatever the numbers that stand there.
func TestDecodeOfAnyHead(t *testing.T) {
	for kind := range 256 {
		for typ := range 256 {
			x := item.Item{Kind: kind, Type: typ, Count: 1, Label: "ab"}
			y, behind, err := item.Decode(append(bytesOf(x), 1, 2, 3))
			if want := wrong(x); err != want {
				t.Errorf("%s: error %d, not %d", told(x), err, want)
			} else if want == api.OK && (y != x || len(behind) != 3) {
				t.Errorf("%s: %s and %d bytes", told(x), told(y), len(behind))
			} else if want != api.OK && (y != item.Item{} || len(behind) != 0) {
				t.Errorf("%s: %s and %d bytes beside error %d", told(x), told(y), len(behind), err)
			}
		}
	}
}

// P12.2: counts of four bytes, also those that are below 0 in fewer bits than an int has.
func TestDecodeOfAnyCount(t *testing.T) {
	for _, count := range []int{0, 1, 2, 255, 256, 65535, 65536, 1 << 20, 1<<20 + 1, 1 << 24, 1<<24 + 1, math.MaxInt32, 1 << 31, math.MaxUint32} {
		for kind := 1; kind <= 3; kind++ {
			x := item.Item{Kind: kind, Type: typesOf(kind)[0], Count: count}
			if want := wrong(x); want != api.OK {
				refused(t, bytesOf(x), want)
			} else if y, _, err := item.Decode(bytesOf(x)); err != api.OK || y != x {
				t.Errorf("%s: %s, error %d", told(x), told(y), err)
			}
		}
	}
}

// P12.2: labels above MaxLabel are read to their end, up to the longest one.
func TestDecodeOfLongLabels(t *testing.T) {
	for _, size := range []int{256, 257, 511, 512, 65280, 65535} {
		x := item.Item{Kind: item.Absorb, Type: item.Bytes, Count: 1, Label: long[:size]}
		b := bytesOf(x)
		refused(t, b, api.ErrLabel)
		refused(t, append(b, 1), api.ErrLabel)
		for _, end := range []int{8, 8 + 255, 8 + 256, len(b) - 1} {
			if end < len(b) {
				refused(t, b[:end], api.ErrShort)
			}
		}
	}
}

// P12.2, K2: of any item whose numbers have room in its bytes the error that the chapter names first.
func TestDecodeOfAnyItem(t *testing.T) {
	tried := 0
	for _, x := range anyItems() {
		if x.Kind < 0 || x.Kind > 255 || x.Type < 0 || x.Type > 255 || x.Count < 0 || x.Count > math.MaxUint32 || len(x.Label) > 65535 {
			continue
		}
		tried++
		want := item.Item{}
		if wrong(x) == api.OK {
			want = x
		}
		y, behind, err := item.Decode(bytesOf(x))
		if err != wrong(x) || y != want || len(behind) != 0 {
			t.Errorf("%s: %s, %d bytes, error %d", told(x), told(y), len(behind), err)
		}
	}
	if tried < 1000 {
		t.Error("only", tried, "items were tried")
	}
}

// P12.2: Decode undoes Encode, and Encode undoes Decode.
func TestThereAndBack(t *testing.T) {
	for _, x := range goodItems() {
		b := mustEncode(t, x)
		y, _, err := item.Decode(b)
		if err != api.OK || y != x || !slices.Equal(mustEncode(t, y), b) {
			t.Errorf("%s: %s, error %d", told(x), told(y), err)
		}
	}
}

// P1, K7: any bytes at all are answered, and what is taken is what Encode gives.
func TestDecodeOfAnyBytes(t *testing.T) {
	r := dice()
	taken := 0
	for range 200000 {
		b := make([]byte, r.Intn(14))
		for i := range b {
			b[i] = byte(r.Intn(4))
		}
		x, behind, err := item.Decode(b)
		if err != api.OK {
			continue
		}
		taken++
		if got := append(mustEncode(t, x), behind...); !slices.Equal(got, b) {
			t.Fatalf("%d: %s and %d", b, told(x), behind)
		}
	}
	if taken == 0 {
		t.Error("no bytes were taken")
	}
}
