package lower

import "freshet/api"

// search is an IN's: its query's rows, each once, behind those of OUTER's columns for which it asks, and the combinations of all columns on which the IN hangs.
type search struct {
	list, each func() api.Flat
	width      int      // of each
	keys       []int    // where in each the columns ahead in list stand
	x, y       api.Expr // what is looked for, as it stands behind each, and the query's value
}

// in is what is found of an IN.
func (l *lowering) in(kid api.Expr, sub api.Rel, s scope) (api.Flat, []int) {
	keys := outer(sub, s)
	cols := rising(keys, here(kid, s))
	w := search{width: len(cols), x: column(len(cols), kid.Type, kid.Null), y: column(len(keys), at(sub.Cols, 0).Type, sub.Cols[0].Null)}
	for _, place := range keys {
		w.keys = append(w.keys, placeIn(cols, place))
	}
	found, _ := l.under(s, sub, []int{0}, func(list api.Flat, o scope) api.Flat {
		return l.let(l.distinct(list), o.width+1, func(list func() api.Flat) api.Flat {
			each := l.distinct(l.columns(s.rows(), s.width, cols))
			return l.let(each, w.width, func(each func() api.Flat) api.Flat {
				w.list, w.each = list, each
				return l.let(l.wanted(w, kid, among(cols, s.place)), w.width+1, func(wanted func() api.Flat) api.Flat {
					return l.verdicts(w, wanted)
				})
			})
		})
	})
	return found, cols
}

// here are the places of the columns for which an expression on rows asks.
func here(e api.Expr, s scope) []int {
	var l []int
	asks(e, 0, func(level, col int) { l = append(l, s.place(level, col)) })
	return l
}

// wanted has what is looked for behind each combination for which the query has rows: for others it must not be evaluated.
func (l *lowering) wanted(w search, kid api.Expr, place func(level, col int) int) api.Flat {
	there := l.distinct(l.columns(w.list(), len(w.keys)+1, upTo(len(w.keys))))
	r, places := l.valued(rows{l.pairs(w.each(), w.width, there, 0, w.keys), w.width, place}, []api.Expr{kid})
	return l.columns(r.plan, r.width, append(upTo(w.width), places...))
}

// verdicts has TRUE behind each combination for which what is looked for is there, NULL, if it might be, FALSE behind all others.
func (l *lowering) verdicts(w search, wanted func() api.Flat) api.Flat {
	return l.let(l.met(w, wanted), w.width, func(met func() api.Flat) api.Flat {
		perhaps := l.over(api.FPos, l.less(l.unknown(w, wanted), met()))
		return l.let(perhaps, w.width, func(perhaps func() api.Flat) api.Flat {
			others := l.less(l.less(w.each(), met()), perhaps())
			return l.union(l.mapped(met(), truth(1)), l.mapped(perhaps(), null(api.Bool)), l.mapped(others, truth(0)))
		})
	})
}

// met are the combinations for which what is looked for equals a value of the query.
func (l *lowering) met(w search, wanted func() api.Flat) api.Flat {
	y := w.y
	y.Col += w.width + 1
	same := api.Expr{Kind: api.ECall, Type: api.Bool, Null: w.x.Null || y.Null, Op: api.OpEq, Kids: []api.Expr{w.x, y}}
	both := l.joined(wanted(), w.list(), w.keys, upTo(len(w.keys)))
	return l.distinct(l.columns(l.filtered(both, same), w.width+1+len(w.keys)+1, upTo(w.width)))
}

// unknown are the combinations for which what is looked for is NULL, or a value of the query is.
func (l *lowering) unknown(w search, wanted func() api.Flat) api.Flat {
	lacking := l.columns(l.filtered(wanted(), isNull(w.x)), w.width+1, upTo(w.width))
	gaps := l.distinct(l.columns(l.filtered(w.list(), isNull(w.y)), len(w.keys)+1, upTo(len(w.keys))))
	both := l.joined(wanted(), gaps, w.keys, upTo(len(w.keys)))
	return l.distinct(l.union(lacking, l.columns(both, w.width+1+len(w.keys), upTo(w.width))))
}
