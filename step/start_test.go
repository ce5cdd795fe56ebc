package step_test

import (
	"slices"
	"strings"
	"sync"
	"testing"

	"stratum/api"
	"stratum/conv"
	"stratum/kind"
	"stratum/step"
)

// P14.1

// stepWords are the entries as DOC.md's table has them.
func stepWords() []api.Entry {
	return []api.Entry{
		{Family: 3, Number: 1, Name: "add", Size: 1},
		{Family: 3, Number: 2, Name: "rename", Size: 2},
		{Family: 3, Number: 3, Name: "split", Size: 3},
		{Family: 3, Number: 4, Name: "join", Size: 3},
		{Family: 3, Number: 5, Name: "retype", Size: 1},
		{Family: 3, Number: 6, Name: "drop", Size: 1},
	}
}

// noWords are texts that are no step's word.
func noWords() []string {
	all := strings.Split("ad,dd,adds,aadd,a,add;,1,3,0,event,version,to,at,into,with,by,load,const,conv,head,tail,count,sum,Steps,step,é,\xff,\x00", ",")
	all = append(all, "", " ", ",", strings.Repeat("add", 2), strings.Repeat("a", 100000), "split at", "addrename", "spl\u0131t")
	for _, e := range stepWords() {
		s := e.Name
		all = append(all, strings.ToUpper(s), strings.ToUpper(s[:1])+s[1:], s[1:], s[:len(s)-1], s+" ", " "+s, s+"\x00", "\x00"+s, s+"s", s+"\n", s+s)
	}
	for _, e := range slices.Concat(kind.Entries(), conv.Entries()) {
		all = append(all, e.Name)
	}
	return all
}

// wantTheStart looks whether all stands that P14.1 names.
func wantTheStart(t *testing.T) {
	t.Helper()
	if n := step.Base(); n != 17 {
		t.Errorf("Base: %d", n)
	}
	if n := conv.Base() + len(conv.Entries()); n != 17 {
		t.Errorf("conv's entries end at %d", n)
	}
	if all := step.Entries(); !slices.Equal(all, stepWords()) {
		t.Errorf("Entries: %v", all)
	}
	for _, e := range stepWords() {
		if n := step.Number(e.Name); n != e.Number {
			t.Errorf("Number(%q): %d, not %d", e.Name, n, e.Number)
		}
	}
	for _, s := range []string{"", "Add", "adds", "uint", "uint-int", "load"} {
		if n := step.Number(s); n != 0 {
			t.Errorf("Number(%q): %d", s, n)
		}
	}
}

func TestTheStart(t *testing.T) {
	wantTheStart(t)
}

// early is asked for while this package starts, ahead of main.
var early = askedEarly()

func askedEarly() []int {
	return []int{step.Base(), len(step.Entries()), step.Number("add"), step.Number("drop"), step.Number("")}
}

func TestTheStartIsDoneAheadOfThoseThatImport(t *testing.T) {
	if !slices.Equal(early, []int{17, 6, 1, 6, 0}) {
		t.Error(early)
	}
}

func TestBaseIsWhatIsAhead(t *testing.T) {
	if n := conv.Base() + len(conv.Entries()); step.Base() != n {
		t.Errorf("Base: %d, and conv's entries end at %d", step.Base(), n)
	}
	if n := len(kind.Entries()) + len(conv.Entries()); step.Base() != n {
		t.Errorf("Base: %d, and kind and conv have %d entries", step.Base(), n)
	}
}

func TestNumbersAreThoseOfSteps(t *testing.T) {
	kinds := []int{api.StepAdd, api.StepRename, api.StepSplit, api.StepJoin, api.StepRetype, api.StepDrop}
	for i, e := range step.Entries() {
		if e.Family != api.Steps || e.Number != kinds[i] || step.Number(e.Name) != kinds[i] {
			t.Errorf("entry %d: %v", i, e)
		}
	}
}

func TestNumberOfNoWord(t *testing.T) {
	for _, s := range noWords() {
		if n := step.Number(s); n != 0 {
			t.Errorf("Number(%s): %d", show(s), n)
		}
	}
}

// spoil writes over all that a list of entries can reach.
func spoil(all []api.Entry) {
	all = all[:cap(all)]
	for i := range all {
		all[i] = api.Entry{Family: 9, Number: -1, Name: "spoiled", Size: 99}
	}
}

func TestEntriesAreNewMemory(t *testing.T) {
	other := step.Entries()
	for range 3 {
		turned := step.Entries()
		slices.Reverse(turned)
		wantTheStart(t)
		spoil(turned)
		wantTheStart(t)
		spoil(append(step.Entries()[:2], api.Entry{Name: "merge"}))
		wantTheStart(t)
		spoil(conv.Entries())
		spoil(kind.Entries())
		wantTheStart(t)
	}
	if !slices.Equal(other, stepWords()) {
		t.Errorf("two answers share memory: %v", other)
	}
}

func TestNothingThatIsCalledChangesTheStart(t *testing.T) {
	h := ofText(t, people)
	for k := -1; k < 8; k++ {
		for _, rec := range [][]api.Field{nil, record(words(1, "a,b")), record(words(1, "7"), words(2, "b")), record(number(0, 1))} {
			for conv := -1; conv < 14; conv++ {
				step.Apply(api.Step{Kind: k, A: 1, B: 2, C: 3, Sep: ",", Conv: conv, Val: api.Value{Kind: k}}, rec)
				step.Apply(api.Step{Kind: k, A: 1, B: 3, C: 4, Sep: ",", Conv: conv, Val: api.Value{Kind: k}}, rec)
			}
			wantTheStart(t)
			step.Lift(h, 0, 1, k, rec)
			step.Lift(h, k, 1, 1, rec)
			step.Number("add")
			step.Number("none")
			wantTheStart(t)
		}
	}
}

func TestManyAskAtOnce(t *testing.T) {
	h := ofText(t, people)
	var all sync.WaitGroup
	for range 8 {
		all.Go(func() {
			for range 50 {
				wantTheStart(t)
				spoil(step.Entries())
				out, err := step.Lift(h, 0, 1, 3, record(words(1, "Ada 7")))
				if err != api.OK || !slices.Equal(out, record(words(2, "Ada"))) {
					t.Errorf("%s, %d", show(out), err)
				}
			}
		})
	}
	all.Wait()
}
