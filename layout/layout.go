// Package layout: where in memory what modules declare stands: what layers 22, 23, 25 and 26 have in common.
package layout

import (
	"wafer/api"
	"wafer/types"
)

// Plan tells of modules' records how they lie in memory, and how they are told from one another.
type Plan struct {
	recs   map[string]api.Rec
	words  map[string]int            // of records that were asked for
	fields map[string]map[string]int // where their fields begin
	kin    map[string]span
}

// span is numbers in a row.
type span struct{ first, count int }

// Firsts tells the first of those with one Name.
func Firsts(l []api.Module) []api.Module {
	met := map[string]int{}
	var few []api.Module
	for _, m := range l {
		if met[m.Name]++; met[m.Name] == 1 {
			few = append(few, m)
		}
	}
	return few
}

// New tells the plan of modules of which no two have one Name.
func New(mods []api.Module) *Plan {
	p := &Plan{recs: map[string]api.Rec{}, words: map[string]int{}, fields: map[string]map[string]int{}, kin: map[string]span{}}
	extended := map[string][]string{} // by their bases
	for _, m := range mods {
		for _, r := range m.Recs {
			name := m.Name + "." + r.Name
			if _, there := p.recs[name]; !there {
				p.recs[name] = r
				extended[r.Base] = append(extended[r.Base], name)
			}
		}
	}
	p.number("", 0, extended)
	return p
}

// number gives a record and all that extend it numbers in a row, and tells the number behind them.
func (p *Plan) number(record string, first int, extended map[string][]string) int {
	next := first + 1
	for _, one := range extended[record] {
		next = p.number(one, next, extended)
	}
	p.kin[record] = span{first: first, count: next - first}
	return next
}

// Extends tells whether record a is b, or extends it.
func (p *Plan) Extends(a, b string) bool { return types.Extends(a, b, p.recs) }

// Kin tells a record's number, and how many from there on are its own and those of records that extend it.
func (p *Plan) Kin(record string) (first, count int) {
	k := p.kin[record]
	return k.first, k.count
}

// Words tells how many words a declared type has, if it has any number.
func (p *Plan) Words(t api.Type) (int, bool) { return types.Words(t, p.recs) }

// Size tells how many words what is of a type has, whose declaration is looked at already.
func (p *Plan) Size(t api.Type) int {
	switch t.Form {
	case api.Array:
		return t.N * p.Size(t.Of[0])
	case api.Record:
		n, asked := p.words[t.Name]
		if !asked {
			n, _ = p.Words(t)
			p.words[t.Name] = n
		}
		return n
	}
	return 1
}

// Field tells how many words of a record are ahead of a field.
func (p *Plan) Field(record, name string) int {
	l, asked := p.fields[record]
	if !asked {
		l = map[string]int{}
		all, _ := types.Fields(record, p.recs)
		at := 0
		for _, f := range all {
			l[f.Name] = at
			at += p.Size(f.T)
		}
		p.fields[record] = l
	}
	return l[name]
}

// Globals tells where modules' variables stand, one behind the other, and how many words they have.
func (p *Plan) Globals(mods []api.Module) (map[string]int, int) {
	at := map[string]int{}
	words := 0
	for _, m := range mods {
		for _, v := range m.Vars {
			at[m.Name+"."+v.Name] = words
			words += p.Size(v.T)
		}
	}
	return at, words
}
