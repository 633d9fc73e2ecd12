package mean

import "freshet/api"

// scopes are the rows that something is meant within, the innermost first, as eval asks for them. They are the last ones of a list: ahead of them is room for more, so that entering a row need not move the others.
type scopes struct {
	list []api.Row
	room int
}

// env are the rows.
func (s *scopes) env() []api.Row {
	return s.list[s.room:]
}

// enter makes a row the innermost one, until it is left.
func (s *scopes) enter(r api.Row) {
	if s.room == 0 {
		s.room = len(s.list) + 1
		s.list = append(make([]api.Row, s.room), s.list...)
	}
	s.room--
	s.list[s.room] = r
}

// leave makes the row that lies around the innermost one the innermost one again.
func (s *scopes) leave() {
	s.room++
}
