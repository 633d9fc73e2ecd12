package parse

import "freshet/api"

// refusal is why a text can't be read on, and where: a reader gives up by a panic with it.
type refusal struct {
	bad api.Errno
	at  int
}

// reader goes through a statement's tokens, each of which it takes only where the grammar lets it by, so that the first one that it can't take is the first one that can't stand there.
type reader struct {
	tokens []api.Token // those that are left; the last one is TEnd
	open   int         // parentheses and CASEs that have not ended
}

func (r *reader) next() api.Token {
	return r.tokens[0]
}

// refuse is a refusal of the next token.
func (r *reader) refuse(bad api.Errno) refusal {
	return refusal{bad, r.next().At}
}

// stray is the refusal of the next token as one that the grammar does not let by.
func (r *reader) stray() refusal {
	if r.next().Kind == api.TEnd {
		return r.refuse(api.ErrEnd)
	}
	return r.refuse(api.ErrToken)
}

// step goes behind the next token.
func (r *reader) step() {
	switch r.next().S {
	case "(", "CASE":
		if r.open == api.MaxDepth {
			panic(r.refuse(api.ErrDeep))
		}
		r.open++
	case ")", "END":
		r.open--
	}
	r.tokens = r.tokens[1:]
}

// sees tells whether the next token is this word or symbol. (No name is one: these are in small letters.)
func (r *reader) sees(word string) bool {
	return r.next().S == word
}

// take goes behind a word or symbol, if it is the next token, and tells whether it is.
func (r *reader) take(word string) bool {
	if !r.sees(word) {
		return false
	}
	r.step()
	return true
}

// need goes behind one of some words or symbols, which has to be the next token, and tells which, from 1 on.
func (r *reader) need(words ...string) int {
	for i, word := range words {
		if r.take(word) {
			return i + 1
		}
	}
	panic(r.stray())
}

func (r *reader) name() string {
	token := r.next()
	if token.Kind != api.TName {
		panic(r.stray())
	}
	r.step()
	return token.S
}

// list reads one or more, with commas between.
func (r *reader) list(one func() api.Ast) []api.Ast {
	l := []api.Ast{one()}
	for r.take(",") {
		l = append(l, one())
	}
	return l
}

// enclosed reads something between parentheses.
func (r *reader) enclosed(one func() api.Ast) api.Ast {
	r.need("(")
	a := one()
	r.need(")")
	return a
}

// enclosedList reads one or more between parentheses, with commas between.
func (r *reader) enclosedList(one func() api.Ast) []api.Ast {
	r.need("(")
	l := r.list(one)
	r.need(")")
	return l
}
