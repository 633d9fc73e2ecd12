package plan

import (
	"slices"

	"freshet/api"
	"freshet/parse"
)

// mayBe tells whether schemas may be.
func mayBe(schemas []api.Schema) bool {
	if slices.ContainsFunc(schemas, func(s api.Schema) bool { return !hasColumns(s) }) {
		return false
	}
	var names []string
	for _, s := range schemas {
		names = append(names, s.Name)
		for _, col := range s.Cols {
			names = append(names, col.Name)
		}
	}
	return areNames(names) && len(byName(schemas)) == len(schemas)
}

// hasColumns tells whether a schema's columns may be, whatever their names are made of.
func hasColumns(s api.Schema) bool {
	return 1 <= len(s.Cols) && len(s.Cols) <= api.MaxCols &&
		!slices.ContainsFunc(s.Cols, func(col api.Col) bool { return col.Type < api.Bool || col.Type > api.Bytes }) &&
		!haveTwice(s.Cols)
}

// areNames tells whether texts are names: in a tree of which nothing else can be wrong parse finds out, of as many at once as one has room for.
func areNames(l []string) bool {
	for some := range slices.Chunk(l, api.MaxTokens-1) {
		a := api.Ast{Kind: api.ACreateIndex, Name: "i", Alias: "t", Kids: make([]api.Ast, len(some))}
		for i, s := range some {
			a.Kids[i] = api.Ast{Kind: api.AName, Name: s}
		}
		if parse.Right(a) != api.OK {
			return false
		}
	}
	return true
}

// haveTwice tells whether two columns have one name.
func haveTwice(cols []api.Col) bool {
	for i, col := range cols {
		if slices.ContainsFunc(cols[:i], func(other api.Col) bool { return other.Name == col.Name }) {
			return true
		}
	}
	return false
}

func byName(schemas []api.Schema) map[string]api.Schema {
	m := map[string]api.Schema{}
	for _, s := range schemas {
		m[s.Name] = s
	}
	return m
}

// checker knows which tables and views there are, by their names.
type checker struct {
	schemas map[string]api.Schema
}

// unused is an error of a name that a table or view has.
func (c checker) unused(name string) api.Errno {
	if _, there := c.schemas[name]; there {
		return api.ErrTwice
	}
	return api.OK
}

// get is all rows of a table or view.
func (c checker) get(name string) (api.Rel, api.Errno) {
	s, there := c.schemas[name]
	if !there {
		return api.Rel{}, api.ErrTable
	}
	return api.Rel{Kind: api.RGet, Name: name, Cols: s.Cols}, api.OK
}
