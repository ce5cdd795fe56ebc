package roll_test

import (
	"math"
	"slices"
	"strconv"
	"strings"
	"testing"

	"stratum/api"
	"stratum/roll"
)

// outside are numbers that are no family's.
func outside() []int {
	return []int{math.MinInt, -6, -1, 0, 6, 7, 64, math.MaxInt}
}

// mustEnter enters a name of size 0, which has to be taken under this number.
func mustEnter(t *testing.T, b *roll.Book, family int, name string, number int) {
	t.Helper()
	if n, err := b.Enter(family, name, 0); n != number || err != api.OK {
		t.Fatalf("Enter(%d, %q): %d, %d, not %d", family, name, n, err, number)
	}
}

// mustRefuse enters what has to be refused with this error, and looks whether the book stayed as it was.
func mustRefuse(t *testing.T, b *roll.Book, family int, name string, size int, want api.Errno) {
	t.Helper()
	before := stateOf(b)
	if n, err := b.Enter(family, name, size); n != 0 || err != want {
		t.Errorf("Enter(%d, %q, %d): %d, %d, not 0, %d", family, name, size, n, err, want)
	}
	if after := stateOf(b); !after.same(before) {
		t.Errorf("the refused Enter(%d, %q, %d) made %v of %v", family, name, size, after, before)
	}
}

// state is all that can be told of a book.
type state struct {
	all   []api.Entry
	open  [api.Folds + 1]bool
	count [api.Folds + 1]int
}

func stateOf(b *roll.Book) state {
	s := state{all: b.All()}
	for family := api.Kinds; family <= api.Folds; family++ {
		s.open[family] = b.Open(family)
		s.count[family] = b.Count(family)
	}
	return s
}

func (s state) same(o state) bool {
	return slices.Equal(s.all, o.all) && s.open == o.open && s.count == o.count
}

// nameOf is a name of its own for each number from 0 to 675.
func nameOf(i int) string {
	return "n" + string(rune('a'+i/26)) + string(rune('a'+i%26))
}

// full is a book with as many entries as one can have, the i-th with the name nameOf(i) in the family 1 + i % 5.
func full(t *testing.T) *roll.Book {
	t.Helper()
	b := roll.New()
	for i := range api.MaxEntries {
		mustEnter(t, b, 1+i%5, nameOf(i), 1+i/5)
	}
	return b
}

// P1.1

func TestNewIsEmptyAndOpen(t *testing.T) {
	b := roll.New()
	if b == nil {
		t.Fatal("New answered nil")
	}
	if len(b.All()) != 0 {
		t.Error("a new book has entries:", b.All())
	}
	for family := api.Kinds; family <= api.Folds; family++ {
		if !b.Open(family) {
			t.Errorf("family %d of a new book is closed", family)
		}
		if b.Count(family) != 0 {
			t.Errorf("family %d of a new book has %d entries", family, b.Count(family))
		}
		if e, ok := b.At(family, 1); ok || e != (api.Entry{}) {
			t.Errorf("At(%d, 1) of a new book: %v, %v", family, e, ok)
		}
		mustEnter(t, b, family, "a", 1)
	}
}

// P1.2

func TestEnterNumbersEachFamilyFromOne(t *testing.T) {
	b := roll.New()
	var want []api.Entry
	for i, c := range []struct {
		family int
		name   string
		size   int
		number int
	}{
		{2, "uint-int", 10, 1},
		{2, "a", 0, 2},
		{1, "a", 3, 1},
		{5, "z", math.MaxInt, 1},
		{2, "b", 1, 3},
		{1, "-", 0, 2},
		{3, "--", 0, 1},
		{4, "a-z", 0, 1},
		{1, "b", 2, 3},
		{5, "a", 2, 2},
	} {
		n, err := b.Enter(c.family, c.name, c.size)
		if n != c.number || err != api.OK {
			t.Errorf("row %d: %d, %d, not %d", i, n, err, c.number)
		}
		want = append(want, api.Entry{Family: c.family, Number: c.number, Name: c.name, Size: c.size})
		if all := b.All(); !slices.Equal(all, want) {
			t.Fatalf("row %d: %v, not %v", i, all, want)
		}
	}
}

func TestEnterTakesNamesOfOneToSixteenBytes(t *testing.T) {
	b := roll.New()
	for n := 1; n <= api.MaxWord; n++ {
		mustEnter(t, b, api.Kinds, strings.Repeat("a", n), n)
	}
	mustEnter(t, b, api.Convs, "abcdefghijklmnop", 1)
	mustRefuse(t, b, api.Convs, "", 0, api.ErrArg)
	mustRefuse(t, b, api.Convs, "abcdefghijklmnopq", 0, api.ErrArg)
	mustRefuse(t, b, api.Convs, strings.Repeat("-", 17), 0, api.ErrArg)
	mustRefuse(t, b, api.Convs, strings.Repeat("a", 1<<16), 0, api.ErrArg)
}

func TestEnterTakesSmallLettersAndTheMinusAlone(t *testing.T) {
	for i := range 256 {
		letter := string([]byte{byte(i)})
		good := i == '-' || 'a' <= i && i <= 'z'
		for _, name := range []string{letter, letter + "a", "a" + letter, "a" + letter + "a", "abcdefghijklmno" + letter} {
			b := roll.New()
			if good {
				mustEnter(t, b, api.Steps, name, 1)
			} else {
				mustRefuse(t, b, api.Steps, name, 0, api.ErrArg)
			}
		}
	}
	for _, name := range []string{"é", "aé", "ａ", "\xff\xfe", "\xc3", "a b", "a\n", "uint_int", "Uint", "a1"} {
		mustRefuse(t, roll.New(), api.Steps, name, 0, api.ErrArg)
	}
}

func TestEnterRefusesWhatIsNoFamily(t *testing.T) {
	b := roll.New()
	mustEnter(t, b, api.Kinds, "a", 1)
	for _, family := range outside() {
		mustRefuse(t, b, family, "b", 0, api.ErrArg)
	}
}

func TestEnterRefusesSizesBelowZero(t *testing.T) {
	b := roll.New()
	for _, size := range []int{-1, -2, math.MinInt} {
		mustRefuse(t, b, api.Kinds, "a", size, api.ErrArg)
	}
	for i, size := range []int{0, 1, math.MaxInt} {
		if n, err := b.Enter(api.Kinds, nameOf(i), size); n != i+1 || err != api.OK {
			t.Errorf("size %d: %d, %d", size, n, err)
		}
		if e, _ := b.At(api.Kinds, i+1); e.Size != size {
			t.Errorf("size %d became %d", size, e.Size)
		}
	}
}

func TestEnterRefusesANameTwiceInOneFamily(t *testing.T) {
	b := roll.New()
	for family := api.Kinds; family <= api.Folds; family++ {
		mustEnter(t, b, family, "a", 1)
	}
	for family := api.Kinds; family <= api.Folds; family++ {
		mustRefuse(t, b, family, "a", 0, api.ErrTwice)
		mustRefuse(t, b, family, "a", 7, api.ErrTwice)
		mustEnter(t, b, family, "aa", 2)
	}
}

func TestEnterTakesSixtyFourEntries(t *testing.T) {
	b := full(t)
	if n := len(b.All()); n != 64 {
		t.Errorf("%d entries, not 64", n)
	}
	for family := api.Kinds; family <= api.Folds; family++ {
		mustRefuse(t, b, family, "more", 0, api.ErrRoom)
		if !b.Open(family) {
			t.Errorf("no room is left, and family %d is closed", family)
		}
	}
}

func TestSixtyFourEntriesOfOneFamily(t *testing.T) {
	b := roll.New()
	for i := range api.MaxEntries {
		mustEnter(t, b, api.Folds, nameOf(i), i+1)
	}
	mustRefuse(t, b, api.Folds, "more", 0, api.ErrRoom)
	mustRefuse(t, b, api.Kinds, "more", 0, api.ErrRoom)
	if n := b.Count(api.Folds); n != 64 {
		t.Errorf("Count: %d, not 64", n)
	}
}

func TestRefusedEntersTakeNoRoom(t *testing.T) {
	b := roll.New()
	mustEnter(t, b, api.Kinds, "a", 1)
	b.Close(api.Words)
	for range 2 * api.MaxEntries {
		mustRefuse(t, b, api.Kinds, "a", 0, api.ErrTwice)
		mustRefuse(t, b, api.Words, "a", 0, api.ErrClosed)
		mustRefuse(t, b, api.Kinds, "", 0, api.ErrArg)
	}
	for i := range api.MaxEntries - 1 {
		mustEnter(t, b, api.Kinds, nameOf(i), i+2)
	}
}

func TestErrorsStandInTheirOrder(t *testing.T) {
	var none *roll.Book
	for _, family := range []int{0, 1, 6} {
		if n, err := none.Enter(family, "", -1); n != 0 || err != api.ErrNil {
			t.Errorf("nil book, family %d: %d, %d", family, n, err)
		}
	}
	b := full(t)
	there, other := nameOf(1), nameOf(2) // of the families 2 and 3
	mustRefuse(t, b, 2, "", 0, api.ErrArg)
	mustRefuse(t, b, 2, "more", 0, api.ErrRoom)
	mustRefuse(t, b, 2, other, 0, api.ErrRoom)
	mustRefuse(t, b, 2, there, 0, api.ErrTwice)
	mustRefuse(t, b, 2, there, -1, api.ErrArg)
	b.Close(2)
	mustRefuse(t, b, 2, there, 0, api.ErrClosed)
	mustRefuse(t, b, 2, "more", 0, api.ErrClosed)
	mustRefuse(t, b, 2, "more", -1, api.ErrArg)
	mustRefuse(t, b, 2, there, -1, api.ErrArg)
	mustRefuse(t, b, 2, "Z", 0, api.ErrArg)
	mustRefuse(t, b, 3, other, 0, api.ErrTwice)
	mustRefuse(t, b, 3, "more", 0, api.ErrRoom)
}

// P1.3

func TestCloseIsForOneFamilyAndForGood(t *testing.T) {
	for family := api.Kinds; family <= api.Folds; family++ {
		b := roll.New()
		mustEnter(t, b, family, "a", 1)
		b.Close(family)
		for f := api.Kinds; f <= api.Folds; f++ {
			if b.Open(f) != (f != family) {
				t.Errorf("family %d closed: Open(%d) is %v", family, f, b.Open(f))
			}
		}
		mustRefuse(t, b, family, "b", 0, api.ErrClosed)
		b.Close(family)
		if b.Open(family) {
			t.Errorf("family %d closed twice is open", family)
		}
		mustRefuse(t, b, family, "b", 0, api.ErrClosed)
		if b.Find(family, "a") != 1 || b.Count(family) != 1 {
			t.Errorf("family %d lost its entry when it was closed", family)
		}
		for f := api.Kinds; f <= api.Folds; f++ {
			if f != family {
				mustEnter(t, b, f, "b", 1)
			}
		}
	}
}

func TestCloseOfNoFamilyDoesNothing(t *testing.T) {
	b := roll.New()
	mustEnter(t, b, api.Kinds, "a", 1)
	before := stateOf(b)
	for _, family := range outside() {
		b.Close(family)
		if b.Open(family) {
			t.Errorf("Open(%d) is true", family)
		}
	}
	if after := stateOf(b); !after.same(before) {
		t.Errorf("%v became %v", before, after)
	}
	for family := api.Kinds; family <= api.Folds; family++ {
		mustEnter(t, b, family, "b", b.Count(family)+1)
	}
}

func TestOpenOfNoFamilyIsFalse(t *testing.T) {
	b := roll.New()
	for _, family := range outside() {
		if b.Open(family) {
			t.Errorf("Open(%d) is true", family)
		}
	}
}

// P1.4

func TestEntriesAreFound(t *testing.T) {
	b := full(t)
	for i, want := range b.All() {
		if want.Family != 1+i%5 || want.Number != 1+i/5 || want.Name != nameOf(i) || want.Size != 0 {
			t.Errorf("entry %d: %v", i, want)
		}
		if n := b.Find(want.Family, want.Name); n != want.Number {
			t.Errorf("Find(%d, %q): %d, not %d", want.Family, want.Name, n, want.Number)
		}
		if e, ok := b.At(want.Family, want.Number); !ok || e != want {
			t.Errorf("At(%d, %d): %v, %v, not %v", want.Family, want.Number, e, ok, want)
		}
	}
	for family, want := range []int{0, 13, 13, 13, 13, 12, 0} {
		if n := b.Count(family); n != want {
			t.Errorf("Count(%d): %d, not %d", family, n, want)
		}
	}
}

func TestFindLooksInItsFamilyAlone(t *testing.T) {
	b := roll.New()
	mustEnter(t, b, 2, "x", 1)
	mustEnter(t, b, 2, "a", 2)
	mustEnter(t, b, 1, "a", 1)
	for _, c := range []struct {
		family int
		name   string
		want   int
	}{{2, "a", 2}, {1, "a", 1}, {1, "x", 0}, {3, "a", 0}, {2, "", 0}, {2, "A", 0}, {2, "aa", 0}, {2, "\xff", 0}} {
		if n := b.Find(c.family, c.name); n != c.want {
			t.Errorf("Find(%d, %q): %d, not %d", c.family, c.name, n, c.want)
		}
	}
	for _, family := range outside() {
		if n := b.Find(family, "a"); n != 0 {
			t.Errorf("Find(%d, \"a\"): %d", family, n)
		}
	}
}

func TestAtOfNoEntryIsZero(t *testing.T) {
	b := roll.New()
	mustEnter(t, b, 2, "a", 1)
	mustEnter(t, b, 2, "b", 2)
	mustEnter(t, b, 1, "c", 1)
	for _, c := range [][2]int{{2, 3}, {2, 0}, {2, -1}, {2, math.MinInt}, {2, math.MaxInt}, {1, 2}, {3, 1}} {
		if e, ok := b.At(c[0], c[1]); ok || e != (api.Entry{}) {
			t.Errorf("At(%d, %d): %v, %v", c[0], c[1], e, ok)
		}
	}
	for _, family := range outside() {
		for _, number := range []int{-1, 0, 1, 2} {
			if e, ok := b.At(family, number); ok || e != (api.Entry{}) {
				t.Errorf("At(%d, %d): %v, %v", family, number, e, ok)
			}
		}
	}
}

func TestCountOfNoFamilyIsZero(t *testing.T) {
	b := full(t)
	for _, family := range outside() {
		if n := b.Count(family); n != 0 {
			t.Errorf("Count(%d): %d", family, n)
		}
	}
}

func TestAskingChangesNothing(t *testing.T) {
	b := roll.New()
	mustEnter(t, b, 2, "a", 1)
	b.Close(3)
	before := stateOf(b)
	for range 2 {
		b.All()
		for family := -1; family <= 7; family++ {
			b.Open(family)
			b.Count(family)
			b.Find(family, "a")
			b.Find(family, "b")
			b.At(family, 1)
			b.At(family, 2)
		}
	}
	if after := stateOf(b); !after.same(before) {
		t.Errorf("%v became %v", before, after)
	}
}

// P1.5

func TestBooksHaveNothingInCommon(t *testing.T) {
	a, b := roll.New(), roll.New()
	mustEnter(t, a, 1, "mine", 1)
	a.Close(2)
	if len(b.All()) != 0 || b.Find(1, "mine") != 0 || b.Count(1) != 0 || !b.Open(2) {
		t.Error("what was done to one book is seen in another", stateOf(b))
	}
	mustEnter(t, b, 1, "yours", 1)
	mustEnter(t, b, 1, "mine", 2)
	mustEnter(t, b, 2, "b", 1)
	if a.Find(1, "mine") != 1 || a.Find(1, "yours") != 0 || a.Count(1) != 1 || a.Count(2) != 0 || a.Open(2) {
		t.Error("what was done to one book is seen in an older one", stateOf(a))
	}
	if c := roll.New(); len(c.All()) != 0 || !c.Open(2) {
		t.Error("a new book has what others have", stateOf(c))
	}
}

func TestAllIsNewMemory(t *testing.T) {
	b := roll.New()
	mustEnter(t, b, 1, "a", 1)
	mustEnter(t, b, 2, "b", 1)
	mustEnter(t, b, 1, "c", 2)
	want := b.All()
	spoiled, other := b.All(), b.All()
	spare := spoiled[:cap(spoiled)]
	for i := range spare {
		spare[i] = api.Entry{Family: 9, Number: 9, Name: "spoiled", Size: 9}
	}
	if !slices.Equal(b.All(), want) || !slices.Equal(other, want) {
		t.Error("what was written into an answer is seen:", b.All(), other)
	}
	mustEnter(t, b, 1, "d", 3)
	if e, ok := b.At(1, 3); !ok || e.Name != "d" || !slices.Equal(b.All()[:3], want) || !slices.Equal(other, want) {
		t.Error("an entry that came later is wrong:", b.All(), other)
	}
	for i := range spare {
		if spare[i].Name != "spoiled" {
			t.Error("the book wrote into an answer:", spare)
		}
	}
}

// A nil book, and whole runs.

func TestNilBook(t *testing.T) {
	var none *roll.Book
	for _, family := range append(outside(), 1, 2, 3, 4, 5) {
		if n, err := none.Enter(family, "a", 0); n != 0 || err != api.ErrNil {
			t.Errorf("Enter(%d): %d, %d", family, n, err)
		}
		none.Close(family)
		if none.Open(family) {
			t.Errorf("Open(%d) is true", family)
		}
		if none.Find(family, "a") != 0 || none.Count(family) != 0 {
			t.Errorf("Find(%d) or Count(%d) isn't 0", family, family)
		}
		if e, ok := none.At(family, 1); ok || e != (api.Entry{}) {
			t.Errorf("At(%d, 1): %v, %v", family, e, ok)
		}
	}
	if len(none.All()) != 0 {
		t.Error("All:", none.All())
	}
}

// plain is a book as the chapter's words have it, with maps for the questions.
type plain struct {
	all    []api.Entry
	closed map[int]bool
	number map[string]int
	count  map[int]int
}

func newPlain() *plain {
	return &plain{closed: map[int]bool{}, number: map[string]int{}, count: map[int]int{}}
}

func (p *plain) enter(family int, name string, size int) (int, api.Errno) {
	key := strconv.Itoa(family) + name
	switch {
	case family < 1 || family > 5 || len(name) < 1 || len(name) > 16 || strings.Trim(name, "abcdefghijklmnopqrstuvwxyz-") != "" || size < 0:
		return 0, api.ErrArg
	case p.closed[family]:
		return 0, api.ErrClosed
	case p.number[key] != 0:
		return 0, api.ErrTwice
	case len(p.all) == 64:
		return 0, api.ErrRoom
	}
	p.count[family]++
	p.number[key] = p.count[family]
	p.all = append(p.all, api.Entry{Family: family, Number: p.count[family], Name: name, Size: size})
	return p.count[family], api.OK
}

func (p *plain) holds(t *testing.T, b *roll.Book) {
	t.Helper()
	if !slices.Equal(b.All(), p.all) {
		t.Fatalf("%v, not %v", b.All(), p.all)
	}
	for family := 0; family <= 6; family++ {
		if b.Count(family) != p.count[family] || b.Open(family) != (1 <= family && family <= 5 && !p.closed[family]) {
			t.Fatalf("family %d: Count %d, Open %v", family, b.Count(family), b.Open(family))
		}
	}
}

func TestRunsAnswerAsThePlainBook(t *testing.T) {
	names := []string{"", "A", "a1", "abcdefghijklmnopq"}
	for i := range 30 {
		names = append(names, nameOf(i))
	}
	x := uint64(1)
	below := func(n int) int { // numbers that look mixed and are the same in each run
		x = x*6364136223846793005 + 1442695040888963407
		return int(x >> 33 % uint64(n))
	}
	seen := map[api.Errno]int{}
	for range 100 {
		b, p := roll.New(), newPlain()
		for range 200 {
			family, name, size := below(7), names[below(len(names))], below(20)-1
			if below(60) == 0 {
				b.Close(family)
				p.closed[family] = true
			}
			n, err := b.Enter(family, name, size)
			seen[err]++
			if wantN, want := p.enter(family, name, size); n != wantN || err != want {
				t.Fatalf("Enter(%d, %q, %d): %d, %d, not %d, %d", family, name, size, n, err, wantN, want)
			}
			if n := b.Find(family, name); n != p.number[strconv.Itoa(family)+name] {
				t.Fatalf("Find(%d, %q): %d", family, name, n)
			}
			p.holds(t, b)
		}
	}
	for _, err := range []api.Errno{api.OK, api.ErrArg, api.ErrClosed, api.ErrTwice, api.ErrRoom} {
		if seen[err] == 0 {
			t.Errorf("no run met the error %d", err)
		}
	}
}
