package pattern_test

import (
	"testing"

	"avouch/api"
	"avouch/item"
	"avouch/pattern"
)

// found looks that the first item with a label is at that place; at -1 there is none.
func found(t *testing.T, l []item.Item, label string, want int) {
	t.Helper()
	wanted := api.OK
	if want < 0 {
		wanted = api.ErrNone
	}
	if at, err := pattern.Find(l, label); at != want || err != wanted {
		t.Errorf("%q: place %d, error %d, not %d and %d", label, at, err, want, wanted)
	}
}

// labelled are items with those labels.
func labelled(labels ...string) []item.Item {
	var out []item.Item
	for i, label := range labels {
		out = append(out, item.Item{Kind: 1 + i%2, Type: 1, Count: 1 + i, Label: label})
	}
	return out
}

// P13.3: the first of several items with that label; -1 and ErrNone, if there is none.
func TestFindKnown(t *testing.T) {
	l := labelled("a", "b", "c", "b", "", "a", "d", "")
	for i, label := range []string{"a", "b", "c"} {
		found(t, l, label, i)
	}
	found(t, l, "", 4)
	found(t, l, "d", 6)
	found(t, l, "e", -1)
	found(t, l[:6], "d", -1)
	found(t, l[3:], "a", 2)
}

// P13.3: of no items there is none.
func TestFindOfNoItems(t *testing.T) {
	for _, l := range [][]item.Item{nil, {}, labelled("a", "")[:0]} {
		found(t, l, "a", -1)
		found(t, l, "", -1)
	}
}

// P13.3: labels of which one begins with the other, or ends with it, or differs in one letter.
func TestFindOfLabelsAlike(t *testing.T) {
	l := labelled("abc", "ab", "a", "abcd", "bc", "c", "Abc", "", "abd")
	for i, x := range l {
		found(t, l, x.Label, i)
	}
	for _, label := range []string{"b", "abcde", "cd", "abC", " ", "abc ", "abc\x00"} {
		found(t, l, label, -1)
	}
	found(t, labelled("a", "ab"), "", -1)
	found(t, labelled("a", "ab"), "abc", -1)
}

// P13.3: labels of any bytes, each by itself, and of any length.
func TestFindOfAnyBytes(t *testing.T) {
	var labels []string
	for i := range 256 {
		labels = append(labels, string([]byte{byte(i)}))
	}
	labels = append(labels, "\x00\x00", "\xff\xff", "\xff\x00", "\x80", "ß", "\xc3", long[:254], long[:255], long[:256], long)
	first := map[string]int{}
	for i, label := range labels {
		if _, there := first[label]; !there {
			first[label] = i
		}
	}
	l := labelled(labels...)
	for _, label := range labels {
		found(t, l, label, first[label])
	}
	found(t, l, "\x00\x00\x00", -1)
	found(t, l, "\xc3\x9e", -1)
	found(t, l, long[:253], -1)
}

// P13.3, K1: of items that may not be, and of more than a pattern may have.
func TestFindOfStrangeItems(t *testing.T) {
	found(t, []item.Item{{Kind: -1, Count: -1}, {Kind: 9, Label: "a"}}, "a", 1)
	found(t, []item.Item{{}, {Label: "a"}}, "", 0)
	l := make([]item.Item, 3000)
	l[2999].Label = "a"
	found(t, l, "a", 2999)
}
