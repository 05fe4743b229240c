package code

import (
	"bytes"
	"math"
	"testing"

	"covenant/api"
)

// variants are valid modules that differ from the ordinary one, and from each other, in one part, or in where the same parts stand.
func variants() []named {
	l := []named{
		{"the ordinary module", plain()},
		{"nothing", api.Module{}},
		{"another Name", with(func(m *api.Module) { m.Codes[0].Name = "ade" })},
		{"a longer Name", with(func(m *api.Module) { m.Codes[0].Name = "addd" })},
		{"a Name with a byte 0 behind", with(func(m *api.Module) { m.Codes[0].Name = "add\x00" })},
		{"no Name", with(func(m *api.Module) { m.Codes[0].Name = "" })},
		{"another last Name", with(func(m *api.Module) { m.Codes[2].Name = "lasu" })},
		{"a Param more", with(func(m *api.Module) { m.Codes[0].Params = []api.Type{1, 1, 1} })},
		{"a Param fewer", with(func(m *api.Module) { m.Codes[0].Params = []api.Type{1} })},
		{"no Params", with(func(m *api.Module) { m.Codes[0].Params = nil })},
		{"Params in another order", with(func(m *api.Module) { m.Codes[2].Params = []api.Type{2, 3, 1} })},
		{"another last Param", with(func(m *api.Module) { m.Codes[2].Params[2] = api.TypeBool })},
		{"no Result", with(func(m *api.Module) { m.Codes[0].Result = api.TypeNone })},
		{"another Result", with(func(m *api.Module) { m.Codes[0].Result = api.TypeBool })},
		{"another last Result", with(func(m *api.Module) { m.Codes[2].Result = api.TypeInt })},
		{"Slots more", with(func(m *api.Module) { m.Codes[0].Slots = 4 })},
		{"Slots fewer", with(func(m *api.Module) { m.Codes[0].Slots = 2 })},
		{"Slots of an empty Code", with(func(m *api.Module) { m.Codes[1].Slots = 256 })},
		{"another Op", with(func(m *api.Module) { m.Codes[0].Instrs[3].Op = api.OpDrop })},
		{"another A", with(func(m *api.Module) { m.Codes[0].Instrs[3].A = 1 })},
		{"A below 0", with(func(m *api.Module) { m.Codes[0].Instrs[3].A = -1 })},
		{"the greatest A", with(func(m *api.Module) { m.Codes[0].Instrs[3].A = math.MaxInt64 })},
		{"the least A", with(func(m *api.Module) { m.Codes[0].Instrs[3].A = math.MinInt64 })},
		{"a great A", with(func(m *api.Module) { m.Codes[0].Instrs[3].A = 1 << 32 })},
		{"another A of a last Instr", with(func(m *api.Module) { m.Codes[2].Instrs[4].A = 1 })},
		{"Instrs in another order", with(func(m *api.Module) {
			l := m.Codes[0].Instrs
			l[0], l[1] = l[1], l[0]
		})},
		{"an Instr more", with(func(m *api.Module) { m.Codes[0].Instrs = append(m.Codes[0].Instrs, api.Instr{Op: api.OpReturn}) })},
		{"an Instr fewer", with(func(m *api.Module) { m.Codes[0].Instrs = m.Codes[0].Instrs[:3] })},
		{"a last Instr fewer", with(func(m *api.Module) { m.Codes[2].Instrs = m.Codes[2].Instrs[:4] })},
		{"no Instrs", with(func(m *api.Module) { m.Codes[0].Instrs = nil })},
		{"Instrs of the next Code", with(func(m *api.Module) { m.Codes[1].Instrs, m.Codes[0].Instrs = m.Codes[0].Instrs, nil })},
		{"Params of the next Code", with(func(m *api.Module) {
			m.Codes[1].Params, m.Codes[1].Slots, m.Codes[0].Params = m.Codes[0].Params, 2, nil
		})},
		{"Codes in another order", with(func(m *api.Module) { m.Codes[0], m.Codes[1] = m.Codes[1], m.Codes[0] })},
		{"a Code more", with(func(m *api.Module) { m.Codes = append(m.Codes, api.Code{}) })},
		{"a Code fewer", with(func(m *api.Module) { m.Codes = m.Codes[:2] })},
		{"no Codes", with(func(m *api.Module) { m.Codes = nil })},
		{"the first Code twice", with(func(m *api.Module) { m.Codes[1] = m.Codes[0] })},
		{"another Text", with(func(m *api.Module) { m.Texts[0] = []byte("ac") })},
		{"a longer Text", with(func(m *api.Module) { m.Texts[0] = []byte("ab\x00") })},
		{"another last Text", with(func(m *api.Module) { m.Texts[2] = []byte("\x00\xfe") })},
		{"Texts split otherwise", with(func(m *api.Module) { m.Texts[0], m.Texts[1] = []byte("a"), []byte("b") })},
		{"Texts in another order", with(func(m *api.Module) { m.Texts[0], m.Texts[1] = m.Texts[1], m.Texts[0] })},
		{"a Text more", with(func(m *api.Module) { m.Texts = append(m.Texts, nil) })},
		{"a Text fewer", with(func(m *api.Module) { m.Texts = m.Texts[:2] })},
		{"no Texts", with(func(m *api.Module) { m.Texts = nil })},
	}
	return l
}

// P11.2: modules that differ in one part have different bytes, and each is read back as itself.
func TestDifferentModules(t *testing.T) {
	l := variants()
	for i, c := range l {
		b, e := Put(c.m)
		if e != api.OK {
			t.Fatalf("%s: %v", c.name, e)
		}
		m, e := Get(b)
		if e != api.OK {
			t.Fatalf("%s: Get: %v", c.name, e)
		}
		for j, d := range l {
			other, _ := Put(d.m)
			if bytes.Equal(b, other) != (i == j) {
				t.Errorf("%s, and %s: the bytes are the same: %v", c.name, d.name, i != j)
			}
			if same(m, d.m) != (i == j) {
				t.Errorf("%s is read back as %s: %v", c.name, d.name, i != j)
			}
		}
	}
}

// P11.1 and P11.2: a list that is empty and one that is nil are the same.
func TestEmptyLists(t *testing.T) {
	nils := api.Module{Codes: []api.Code{{Name: "f"}}, Texts: [][]byte{nil}}
	empties := api.Module{Codes: []api.Code{{Name: "f", Params: []api.Type{}, Instrs: []api.Instr{}}}, Texts: [][]byte{{}}}
	a, e := Put(nils)
	b, f := Put(empties)
	if e != api.OK || f != api.OK || !bytes.Equal(a, b) {
		t.Errorf("%x, %v; %x, %v", a, e, b, f)
	}
}
