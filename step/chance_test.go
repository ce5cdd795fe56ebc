package step_test

import (
	"slices"
	"strconv"
	"testing"

	"stratum/api"
	"stratum/check"
	"stratum/step"
	"stratum/table"
)

// Histories, records and steps by chance, and histories that aren't valid.

// making is a type that is put together step by step.
type making struct {
	r    *lcg
	cols []api.Column
	used int // tags
	uses int // names
}

func (m *making) name() string {
	m.uses++
	return "n" + strconv.Itoa(m.uses)
}

func (m *making) put(k int) int {
	m.used++
	m.cols = append(m.cols, api.Column{Name: m.name(), Tag: m.used, Kind: k})
	return m.used
}

func (m *making) take(at int) int {
	tag := m.cols[at].Tag
	m.cols = slices.Delete(m.cols, at, at+1)
	return tag
}

// texts are the places of the columns that are texts, in an order by chance.
func (m *making) texts() []int {
	var all []int
	for at, c := range m.cols {
		if c.Kind == text {
			all = slices.Insert(all, m.r.below(len(all)+1), at)
		}
	}
	return all
}

// step is one that can be done, and whether there is one of its kind.
func (m *making) step(k int, first bool) (api.Step, bool) {
	texts := m.texts()
	switch {
	case k == api.StepAdd:
		v := oneOf(m.r, valuesOf(1+m.r.below(raw))...)
		s := api.Step{Kind: k, A: m.put(v.Kind)}
		if !first {
			s.Val = v
		}
		return s, true
	case k == api.StepSplit && len(texts) > 0:
		a := m.take(texts[0])
		return split(a, oneOf(m.r, ",", "é", "7", "-", "b,"), m.put(text), m.put(text)), true
	case k == api.StepJoin && len(texts) > 1:
		a, b := m.cols[texts[0]].Tag, m.cols[texts[1]].Tag
		m.take(max(texts[0], texts[1]))
		m.take(min(texts[0], texts[1]))
		return join(a, b, oneOf(m.r, ",", "", "é", "-", "7"), m.put(text)), true
	case k > api.StepDrop || k == api.StepSplit || k == api.StepJoin || len(m.cols) == 0:
		return api.Step{}, false
	}
	at := m.r.below(len(m.cols))
	col := &m.cols[at]
	switch k {
	case api.StepRename:
		col.Name = m.name()
		return rename(col.Tag), true
	case api.StepDrop:
		return drop(m.take(at)), true
	}
	c := oneOf(m.r, slices.DeleteFunc(conversions(), func(c conversion) bool { return c.from != col.Kind })...)
	col.Kind = c.to
	return retype(col.Tag, c.number), true
}

func (r *lcg) typ(name string) api.Type {
	m := &making{r: r}
	t := api.Type{Name: name}
	for i := range 1 + r.below(6) {
		var v api.Version
		for range r.below(7) {
			k := oneOf(r, 1, 1, 2, 3, 3, 4, 4, 5, 5, 5, 6)
			if i == 0 && r.below(5) > 0 {
				k = api.StepAdd
			}
			if s, ok := m.step(k, i == 0); ok {
				v.Steps = append(v.Steps, s)
			}
		}
		v.Columns = slices.Clone(m.cols)
		t.Versions = append(t.Versions, v)
	}
	return t
}

func (r *lcg) history() api.History {
	var h api.History
	for i := range 1 + r.below(3) {
		h.Types = append(h.Types, r.typ("t"+strconv.Itoa(i)))
	}
	return h
}

// record is one of these columns.
func (r *lcg) record(cols []api.Column) []api.Field {
	var rec []api.Field
	for _, c := range cols {
		v := oneOf(r, valuesOf(c.Kind)...)
		if c.Kind == text && r.below(2) == 0 { // so that fewer conversions fail
			v.S = oneOf(r, "7", "1", "0", "true", "7,7", "1é0")
		}
		rec = append(rec, api.Field{Tag: c.Tag, Val: v})
	}
	return rec
}

func TestLiftByChance(t *testing.T) {
	r := lcg(3)
	met := map[api.Errno]int{}
	for range 4000 {
		h := r.history()
		if !check.Valid(h) {
			t.Fatalf("not valid: %s", show(h))
		}
		for typ, x := range h.Types {
			n := len(x.Versions)
			for from := 1; from <= n; from++ {
				rec := r.record(x.Versions[from-1].Columns)
				for to := from - 1; to <= n+1; to++ {
					want, wantErr := plainLift(h, typ, from, to, rec)
					wantLift(t, h, lift{typ, from, to}, rec, want, wantErr)
					met[wantErr]++
					if wantErr == api.OK && table.Typed(x.Versions[to-1].Columns, want) != api.OK {
						t.Errorf("%s isn't of the columns of version %d", show(want), to)
					}
				}
				v := from + r.below(n+1-from)
				wantInTwoParts(t, h, typ, from, v, v+r.below(n+1-v), rec)
			}
		}
	}
	for _, err := range []api.Errno{api.OK, api.ErrVersion, api.ErrRange, api.ErrNumber, api.ErrUtf, api.ErrBool} {
		if met[err] < 100 {
			t.Errorf("%d was met %d times", err, met[err])
		}
	}
	if met[api.ErrTyped] > 0 {
		t.Errorf("a valid history's step answers ErrTyped: %v", met)
	}
}

// TestLiftIsAllSteps: what Lift makes are the steps by Apply, one by one.
func TestLiftIsAllSteps(t *testing.T) {
	r := lcg(5)
	for range 2000 {
		h := r.history()
		for typ, x := range h.Types {
			rec := r.record(x.Versions[0].Columns)
			want, wantErr := rec, api.OK
			for _, v := range x.Versions[1:] {
				for _, s := range v.Steps {
					if wantErr == api.OK {
						want, wantErr = step.Apply(s, want)
					}
				}
			}
			out, err := step.Lift(h, typ, 1, len(x.Versions), rec)
			if err != wantErr || !slices.Equal(out, want) {
				t.Errorf("Lift of %s: %s, %d, by steps %s, %d", show(rec), show(out), err, show(want), wantErr)
			}
		}
	}
}

func (r *lcg) tag() int {
	return oneOf(r, 1, 2, 3, 4, 5, 6, 7, 8, 9, 65535, 65535, 0, -1, 65536)
}

// anyStep is one with anything in it.
func (r *lcg) anyStep() api.Step {
	v := api.Value{Kind: r.below(7), N: oneOf[uint64](r, 0, 0, 1, 7), S: oneOf(r, "", "", "x", "7", "\xff")}
	if r.below(2) == 0 {
		v = oneOf(r, valuesOf(1+r.below(raw))...)
	}
	return api.Step{Kind: oneOf(r, 1, 2, 3, 4, 5, 6, r.below(9)-1), A: r.tag(), B: r.tag(), C: r.tag(), Sep: oneOf(r, ",", "", "é", "\xff"), Conv: oneOf(r, 5, 8, 12, 12, r.below(15)-1), Val: v}
}

func TestApplyByChance(t *testing.T) {
	r := lcg(8)
	met := map[api.Errno]int{}
	for range 100000 {
		var rec []api.Field
		for tag := range 10 {
			if r.below(2) == 0 {
				rec = append(rec, api.Field{Tag: tag + 1, Val: oneOf(&r, valuesOf(oneOf(&r, unsigned, signed, truth, text, text, text, raw, raw))...)})
			}
		}
		if r.below(10) == 0 {
			rec = append(rec, api.Field{Tag: r.tag(), Val: oneOf(&r, noValues()...)})
		}
		met[wantAsModel(t, r.anyStep(), rec)]++
	}
	for _, err := range []api.Errno{api.OK, api.ErrTyped, api.ErrRange, api.ErrNumber, api.ErrUtf, api.ErrBool} {
		if met[err] < 10 {
			t.Errorf("%d was met %d times", err, met[err])
		}
	}
}

// TestHistoriesThatAreNotValid: of these nothing is promised but that the call ends and doesn't panic.
func TestHistoriesThatAreNotValid(t *testing.T) {
	r := lcg(13)
	odd := 0
	for range 20000 {
		h := r.history()
		for i := range h.Types {
			for j := range h.Types[i].Versions {
				v := &h.Types[i].Versions[j]
				for range r.below(3) {
					v.Steps = slices.Insert(v.Steps, r.below(len(v.Steps)+1), r.anyStep())
				}
				if len(v.Columns) > 0 && r.below(4) == 0 {
					v.Columns[r.below(len(v.Columns))] = api.Column{Tag: r.tag(), Kind: r.below(7)}
				}
			}
		}
		if !check.Valid(h) {
			odd++
		}
		for typ := -1; typ <= len(h.Types); typ++ {
			for from := range 8 {
				to := from + r.below(3)
				rec := r.record(nil)
				if cols, err := table.Columns(h, typ, from); err == api.OK {
					rec = r.record(slices.DeleteFunc(cols, func(c api.Column) bool { return c.Kind < 1 || c.Kind > 5 }))
				}
				if out, err := step.Lift(h, typ, from, to, rec); err != api.OK && len(out) > 0 {
					t.Errorf("%s beside %d", show(out), err)
				}
			}
		}
	}
	if odd < 10000 {
		t.Errorf("only %d aren't valid", odd)
	}
}

// TestRawHistories: lists that hold nothing, kinds, tags and values that are none, one and the same version many times.
func TestRawHistories(t *testing.T) {
	bare := api.Type{Versions: make([]api.Version, 3)}
	twice := api.Version{Columns: []api.Column{{Tag: 1, Kind: text}, {Tag: 1, Kind: text}}, Steps: []api.Step{drop(1), drop(1)}}
	wild := api.Version{Columns: []api.Column{{Tag: -1, Kind: 9}}, Steps: []api.Step{{}, {Kind: -1}, {Kind: 7}, add(words(0, "\xff"))}}
	h := api.History{Types: []api.Type{{}, bare, {Versions: []api.Version{twice, wild, twice}}, {Versions: slices.Repeat([]api.Version{twice}, 100)}}}
	for _, n := range append(far(), 0, 1, 2, 3, 4, 100, 101) {
		for _, m := range append(far(), 0, 1, 2, 3, 4, 100, 101) {
			for typ := -1; typ < 5; typ++ {
				for _, rec := range [][]api.Field{nil, {words(1, "a")}, {words(1, "a"), words(1, "b")}, {{Tag: -1, Val: api.Value{Kind: 9}}}, {{}}} {
					step.Lift(h, typ, n, m, rec)
					step.Lift(h, n, typ, m, rec)
				}
			}
		}
	}
	wantLifted(t, h, lift{1, 1, 3}, nil)
}
