package parse_test

import (
	"math/rand/v2"
	"regexp"
	"slices"
	"strings"

	"freshet/api"
)

// chapter is the grammar as the chapter has it, but that what stands between the parentheses of prime begins with SELECT, and that a literal's '-' has a number behind it.
const chapter = `
statement = ( create | drop | insert | delete | SUBSCRIBE name | query ) [ ';' ]
create    = CREATE TABLE name '(' column { ',' column } ')' | CREATE VIEW name AS query | CREATE INDEX name ON name '(' name { ',' name } ')'
column    = name ( BOOL | INT | DEC | TEXT | BYTES ) [ NOT NULL ]
drop      = DROP ( TABLE | VIEW | INDEX ) name
insert    = INSERT INTO name VALUES values { ',' values }
values    = '(' literal { ',' literal } ')'
literal   = '-' number | value | TRUE | FALSE | NULL
delete    = DELETE FROM name [ WHERE or ]
query     = union [ [ ORDER BY key { ',' key } ] LIMIT int ]
key       = name [ ASC | DESC ]
union     = inter { ( UNION | EXCEPT ) [ ALL ] inter }
inter     = core { INTERSECT [ ALL ] core }
core      = '(' query ')' | select
select    = SELECT [ DISTINCT ] item { ',' item } [ FROM join { ',' join } ] [ WHERE or ] [ GROUP BY ref { ',' ref } ] [ HAVING or ]
squery    = sunion [ [ ORDER BY key { ',' key } ] LIMIT int ]
sunion    = sinter { ( UNION | EXCEPT ) [ ALL ] inter }
sinter    = select { INTERSECT [ ALL ] core }
item      = '*' | or [ AS name ]
join      = source { ( [ INNER ] JOIN | LEFT JOIN ) source ON or }
source    = name [ [ AS ] name ] | [ LATERAL ] '(' query ')' [ AS ] name
or        = and { OR and }
and       = not { AND not }
not       = NOT not | test
test      = add [ ( '=' | '<>' | '<' | '<=' | '>' | '>=' ) add | IS [ NOT ] NULL | [ NOT ] IN '(' query ')' ]
add       = mul { ( '+' | '-' ) mul }
mul       = neg { ( '*' | '/' ) neg }
neg       = '-' neg | prime
prime     = value | TRUE | FALSE | NULL | EXISTS '(' query ')' | CASE WHEN or THEN or { WHEN or THEN or } [ ELSE or ] END | '(' squery ')' | '(' or ')' | name '(' [ '*' | or { ',' or } ] ')' | ref
ref       = name [ '.' name ]
`

// grammar has, of each name of something that is made of others, the rows of names that it may be; what has none is a token.
type grammar map[string][][]string

// theGrammar is the chapter's; its groups, options and repetitions have names of their own.
func theGrammar() grammar {
	g := grammar{}
	for line := range strings.Lines(chapter) {
		if name, rule, ok := strings.Cut(line, "="); ok {
			b := builder{g: g, name: strings.TrimSpace(name), words: regexp.MustCompile(`'[^']*'|\S+`).FindAllString(rule, -1)}
			g[b.name] = b.choices()
		}
	}
	return g
}

type builder struct {
	g     grammar
	name  string
	words []string
	parts int
}

// choices reads rows up to what ends them.
func (b *builder) choices() [][]string {
	l := [][]string{nil}
	for len(b.words) > 0 {
		word := b.words[0]
		b.words = b.words[1:]
		last := &l[len(l)-1]
		switch word {
		case "|":
			l = append(l, nil)
		case "(", "[", "{":
			*last = append(*last, b.part(word))
		case ")", "]", "}":
			return l
		default:
			*last = append(*last, strings.Trim(word, "'"))
		}
	}
	return l
}

// part reads what stands behind a bracket, up to its end, and names it.
func (b *builder) part(open string) string {
	b.parts++
	name := b.name + strings.Repeat("'", b.parts)
	l := b.choices()
	switch open {
	case "{":
		for i := range l {
			l[i] = append(l[i], name)
		}
		l = append(l, nil)
	case "[":
		l = append(l, nil)
	}
	b.g[name] = l
	return name
}

// fits tells whether a token is what a name of the grammar says.
func fits(name string, token api.Token) bool {
	kind := token.Lit.Kind
	switch name {
	case "name":
		return token.Kind == api.TName
	case "value":
		return token.Kind == api.TValue
	case "number":
		return kind == api.Int || kind == api.Dec
	case "int":
		return kind == api.Int
	}
	return (token.Kind == api.TWord || token.Kind == api.TSymbol) && token.S == name
}

// stack is what has to come: a name, and the rest behind it; nil is nothing.
type stack struct {
	name string
	rest *stack
}

// lets is how many tokens from the left can stand where they stand, and whether they could be all.
func (g grammar) lets(tokens []api.Token) (int, bool) {
	now := g.begin(nil, &stack{"statement", nil})
	for i, token := range tokens {
		var next []*stack
		for _, s := range now {
			if s != nil && fits(s.name, token) {
				next = g.begin(next, s.rest)
			}
		}
		if len(next) == 0 {
			return i, slices.Contains(now, nil)
		}
		now = next
	}
	return len(tokens), slices.Contains(now, nil)
}

// begin adds to a list all that may have to come, beginning with a token.
func (g grammar) begin(l []*stack, s *stack) []*stack {
	if s == nil || g[s.name] == nil {
		return append(l, s)
	}
	for _, row := range g[s.name] {
		more := s.rest
		for _, name := range slices.Backward(row) {
			more = &stack{name, more}
		}
		l = g.begin(l, more)
	}
	return l
}

// least is, of each name, the least depth of what it may be.
func (g grammar) least() map[string]int {
	l := map[string]int{}
	for range len(g) {
		for name, rows := range g {
			best := 1 << 20
			for _, row := range rows {
				best = min(best, 1+deepest(l, g, row))
			}
			l[name] = best
		}
	}
	return l
}

// deepest is how deep a row is at least.
func deepest(l map[string]int, g grammar, row []string) int {
	d := 0
	for _, name := range row {
		if g[name] == nil {
			continue
		}
		if l[name] == 0 {
			return 1 << 19
		}
		d = max(d, l[name])
	}
	return d
}

// author writes texts that the grammar makes.
type author struct {
	g     grammar
	least map[string]int
	by    *rand.Rand
	room  int // how many tokens may still be written before only the shortest way is taken
}

func newAuthor(g grammar, seed uint64) *author {
	return &author{g: g, least: g.least(), by: lot(seed)}
}

// statement writes tokens, not many more than there is room for.
func (w *author) statement(room int) []string {
	w.room = room
	return w.write(nil, "statement")
}

func (w *author) write(l []string, name string) []string {
	rows := w.g[name]
	if rows == nil {
		w.room--
		return append(l, terminal(w.by, name))
	}
	row := pick(w.by, rows...)
	if w.room <= 0 {
		row = slices.MinFunc(rows, func(a, b []string) int { return deepest(w.least, w.g, a) - deepest(w.least, w.g, b) })
	}
	for _, part := range row {
		l = w.write(l, part)
	}
	return l
}

// terminal writes a token.
func terminal(by *rand.Rand, name string) string {
	switch name {
	case "name":
		return pick(by, "a", "b", "t1", "x", "count", "Sum")
	case "value":
		return pick(by, "1", "0", "2.5", "'it''s'", "x'0f'", "9223372036854775807", "9223372036854775808", "'a'", "3")
	case "number":
		return pick(by, "1", "2.5", "0", "9223372036854775808")
	case "int":
		return pick(by, "0", "5", "1000000", "1000001", "9223372036854775808")
	}
	return name
}
