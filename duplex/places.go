package duplex

// take takes one unit.
func (s *Sponge[U]) take(unit U) {
	rate := s.permutation.Rate()
	if s.taken == rate {
		s.permute()
		s.taken = 0
	}
	s.state[s.taken] = unit
	s.taken++
	s.given = rate
}

// give gives one unit.
func (s *Sponge[U]) give() U {
	if s.given == s.permutation.Rate() {
		s.permute()
		s.taken, s.given = 0, 0
	}
	unit := s.state[s.given]
	s.given++
	return unit
}

// permute permutes the state, and counts that.
func (s *Sponge[U]) permute() {
	s.permutation.Permute(s.state)
	s.calls++
}
