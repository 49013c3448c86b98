package duplex

import (
	"avouch/api"
	"avouch/field"
	"avouch/keccak"
	"avouch/matrix"
	"avouch/poseidon"
)

const (
	// bytesRate is how many bytes of Keccak's state are its rate.
	bytesRate = 136
	// elementsRate is how many elements of Poseidon's state are its rate.
	elementsRate = 2
)

// ofBytes is Keccak's permutation.
type ofBytes struct{}

func (ofBytes) Width() int { return keccak.Size }

func (ofBytes) Rate() int { return bytesRate }

// Permute leaves a list of any other length as it is, since that is no state.
func (ofBytes) Permute(state []byte) {
	lanes, err := keccak.OfBytes(state)
	if err != api.OK {
		return
	}
	all := lanes.Permute().Bytes()
	copy(state, all[:])
}

// ofElements is Poseidon's permutation. It keeps the one of layer 10, which finds its constants once.
type ofElements struct {
	rounds *poseidon.Permutation
}

func (ofElements) Width() int { return matrix.Width }

func (ofElements) Rate() int { return elementsRate }

// Permute leaves a list of any other length as it is, since that is no state.
func (p ofElements) Permute(state []field.Element) {
	if len(state) != matrix.Width {
		return
	}
	var v matrix.Vector
	copy(v[:], state)
	v = p.rounds.Permute(v)
	copy(state, v[:])
}
