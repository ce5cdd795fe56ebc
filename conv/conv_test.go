package conv_test

import (
	"slices"
	"strings"
	"sync"
	"testing"

	"stratum/api"
	"stratum/conv"
	"stratum/kind"
)

// entries are the chapter's table as entries.
func entries() []api.Entry {
	var out []api.Entry
	for _, r := range rows() {
		out = append(out, api.Entry{Family: 2, Number: r.number, Name: r.name, Size: r.size})
	}
	return out
}

// between is the chapter's table, by kinds.
func between(from int, to int) int {
	for _, r := range rows() {
		if r.from == from && r.to == to {
			return r.number
		}
	}
	return 0
}

// wantTheStart looks whether all stands that P6.1 names.
func wantTheStart(t *testing.T) {
	t.Helper()
	if all := conv.Entries(); !slices.Equal(all, entries()) {
		t.Errorf("Entries: %v", all)
	}
	if n := conv.Base(); n != 5 {
		t.Errorf("Base: %d", n)
	}
	if n := conv.Count(); n != 12 {
		t.Errorf("Count: %d", n)
	}
	for _, r := range rows() {
		wantRow(t, r)
	}
	for from := 0; from <= 6; from++ {
		for to := 0; to <= 6; to++ {
			wantBetween(t, from, to)
		}
	}
}

// wantRow looks what From, To and Sure answer of a conversion's number, or of another one.
func wantRow(t *testing.T, r row) {
	t.Helper()
	if k := conv.From(r.number); k != r.from {
		t.Errorf("From(%d): %d, not %d", r.number, k, r.from)
	}
	if k := conv.To(r.number); k != r.to {
		t.Errorf("To(%d): %d, not %d", r.number, k, r.to)
	}
	if sure := conv.Sure(r.number); sure != r.sure {
		t.Errorf("Sure(%d): %v", r.number, sure)
	}
}

func wantBetween(t *testing.T, from int, to int) {
	t.Helper()
	if n := conv.Between(from, to); n != between(from, to) {
		t.Errorf("Between(%d, %d): %d, not %d", from, to, n, between(from, to))
	}
}

// P6.1

func TestTheStart(t *testing.T) {
	wantTheStart(t)
}

// early is asked for while this package starts, ahead of main.
var early = func() []int {
	return []int{conv.Base(), conv.Count(), len(conv.Entries()), conv.Between(5, 4), conv.From(7), conv.To(7)}
}()

func TestTheStartIsDoneAheadOfThoseThatImport(t *testing.T) {
	if !slices.Equal(early, []int{5, 12, 12, 12, 3, 4}) {
		t.Error(early)
	}
}

func TestBaseIsWhatKindHas(t *testing.T) {
	if n := kind.Base() + len(kind.Entries()); conv.Base() != n {
		t.Errorf("Base: %d, and kind's entries end at %d", conv.Base(), n)
	}
}

func TestEntriesAreThoseOfTheirKinds(t *testing.T) {
	all := conv.Entries()
	if len(all) != conv.Count() {
		t.Fatalf("%d entries, and Count is %d", len(all), conv.Count())
	}
	for i, e := range all {
		n := i + 1
		from, to := conv.From(n), conv.To(n)
		if e.Family != api.Convs || e.Number != n || e.Name != kind.Name(from)+"-"+kind.Name(to) || e.Size != 8*from+to {
			t.Errorf("entry %d, of the kinds %d and %d: %v", n, from, to, e)
		}
		if conv.Between(from, to) != n {
			t.Errorf("Between(%d, %d): %d, not %d", from, to, conv.Between(from, to), n)
		}
		if len(e.Name) > api.MaxWord {
			t.Errorf("%s is too long for a roll", e.Name)
		}
	}
}

func TestNoConversion(t *testing.T) {
	for _, n := range noNumbers() {
		wantRow(t, row{number: n})
	}
	for n := -1000; n <= 1000; n++ {
		if n < 1 || n > 12 {
			wantRow(t, row{number: n})
		}
	}
}

func TestBetweenOfNoKinds(t *testing.T) {
	for _, a := range noKinds() {
		for _, b := range slices.Concat(noKinds(), []int{1, 2, 3, 4, 5}) {
			wantBetween(t, a, b)
			wantBetween(t, b, a)
		}
	}
	for a := -20; a <= 300; a++ {
		for b := -20; b <= 300; b++ {
			wantBetween(t, a, b)
		}
	}
}

// spoil writes over all that a list of entries can reach.
func spoil(all []api.Entry) {
	all = all[:cap(all)]
	for i := range all {
		all[i] = api.Entry{Family: 9, Number: -1, Name: "spoiled", Size: 99}
	}
}

func TestEntriesAreNewMemory(t *testing.T) {
	other := conv.Entries()
	for range 3 {
		turned := conv.Entries()
		slices.Reverse(turned)
		wantTheStart(t)
		spoil(turned)
		wantTheStart(t)
		spoil(append(conv.Entries()[:2], api.Entry{Name: "int-bool"}))
		wantTheStart(t)
		spoil(kind.Entries())
		wantTheStart(t)
	}
	if !slices.Equal(other, entries()) {
		t.Errorf("two answers share memory: %v", other)
	}
}

func TestNothingThatIsCalledChangesTheStart(t *testing.T) {
	some := []api.Value{{}, {Kind: 1, N: 1 << 63}, {Kind: 2, N: 1<<64 - 1}, {Kind: 3, N: 1}, {Kind: 3, N: 2}, {Kind: 4, S: "x"}, {Kind: 4, S: "7"}, {Kind: 5, S: "\xff"}, {Kind: 9}}
	for _, n := range slices.Concat(noNumbers(), []int{1, 2, 3, 4, 5, 6, 7, 8, 9, 10, 11, 12}) {
		for _, v := range some {
			conv.Apply(n, v)
		}
		conv.Between(conv.From(n), conv.To(n))
		conv.Between(n, n)
		conv.Sure(n)
		wantTheStart(t)
	}
}

func TestManyAskAtOnce(t *testing.T) {
	want := api.Value{Kind: 2, N: 7}
	var all sync.WaitGroup
	for range 8 {
		all.Go(func() {
			for range 100 {
				wantTheStart(t)
				spoil(conv.Entries())
				if v, err := conv.Apply(6, api.Value{Kind: 4, S: "007"}); v != want || err != api.OK {
					t.Errorf("%s, %d", show(v), err)
				}
			}
		})
	}
	all.Wait()
}

// What is sure never fails, and what isn't has a value at which it fails.
func TestSureIsWhatApplyDoes(t *testing.T) {
	for _, r := range rows() {
		var errs []api.Errno
		for _, v := range ofKind(r.from) {
			if _, err := conv.Apply(r.number, v); err != api.OK {
				errs = append(errs, err)
			}
		}
		slices.Sort(errs)
		errs = slices.Compact(errs)
		if !slices.Equal(errs, r.errs) {
			t.Errorf("%s fails with %v, not with %v", r.name, errs, r.errs)
		}
		if conv.Sure(r.number) != (len(errs) == 0) {
			t.Errorf("Sure(%d): %v, and it fails with %v", r.number, conv.Sure(r.number), errs)
		}
	}
}

func TestNamesAreWhatTheKindsAreCalled(t *testing.T) {
	for i, e := range conv.Entries() {
		from, to, ok := strings.Cut(e.Name, "-")
		if !ok || conv.Between(kind.Of(from), kind.Of(to)) != i+1 {
			t.Errorf("entry %d: %v", i+1, e)
		}
	}
}
