package item

import "avouch/api"

// isKind tells whether there is such a kind.
func isKind(kind int) bool { return Absorb <= kind && kind <= Ratchet }

// hasType tells whether items of a kind that there is have that type.
func hasType(kind, typ int) bool {
	switch kind {
	case Absorb:
		return typ == Bytes || typ == Uint64 || typ == Field || typ == Group
	case Squeeze:
		return typ == Bytes || typ == Field
	default:
		return typ == Plain
	}
}

// mostOf gives the greatest count of a kind's items.
func mostOf(kind int) int {
	if kind == Ratchet {
		return 1
	}
	return api.MaxCount
}
