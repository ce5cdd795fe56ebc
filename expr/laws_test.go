package expr_test

import (
	"slices"
	"strings"
	"sync"
	"testing"
	"unsafe"

	"stratum/api"
	"stratum/expr"
)

// P11.3

// wantSame looks that two expressions have the same values where no error comes; it answers whether they have some.
func wantSame(t *testing.T, a []api.Node, b []api.Node) bool {
	t.Helper()
	some := false
	for k := 1; k <= 5; k++ {
		v, _, err := expr.Value(a, k)
		w, _, otherErr := expr.Value(b, k)
		if err == api.OK && otherErr == api.OK {
			some = true
			if v != w {
				t.Errorf("%s and %s of kind %d: %s and %s", shown(a), shown(b), k, shownValue(v), shownValue(w))
			}
		}
	}
	return some
}

func TestLawsOfNumbers(t *testing.T) {
	r := lcg(115)
	some, bounds := 0, ends()
	for range 6000 {
		a, b, c := whole(r.whole(bounds)), whole(r.whole(bounds)), whole(r.whole(bounds))
		if r.below(2) == 0 {
			c = r.expression('n', 3)
		}
		for _, n := range []api.Node{op(api.ExAdd), op(api.ExMul)} {
			if wantSame(t, over(n, a, b), over(n, b, a)) {
				some++
			}
			wantSame(t, over(n, a, c), over(n, c, a))
			if wantSame(t, over(n, over(n, a, b), c), over(n, a, over(n, b, c))) {
				some++
			}
			wantSame(t, over(n, over(n, a, b), c), over(n, over(n, c, a), b))
		}
		wantSame(t, over(op(api.ExSub), a, b), over(op(api.ExAdd), a, append(slices.Clip(b), op(api.ExNeg))))
		wantSame(t, over(op(api.ExSub), a, c), over(op(api.ExAdd), a, append(slices.Clip(c), op(api.ExNeg))))
	}
	if some < 4000 {
		t.Error(some)
	}
}

func TestLawsOfTexts(t *testing.T) {
	r := lcg(116)
	some := 0
	for range 6000 {
		kids := make([][]api.Node, 1+r.below(6))
		for i := range kids {
			kids[i] = nodes(text(oneOf(&r, "", "a", "é", "bc", times("x", r.below(1500)))))
			if r.below(4) == 0 {
				kids[i] = r.expression('t', 2)
			}
		}
		chain := kids[0]
		for _, k := range kids[1:] {
			chain = over(op(api.ExAdd), chain, k)
		}
		if wantSame(t, over(cat(len(kids)), kids...), chain) {
			some++
		}
		s, n := kids[0], nodes(num(uint64(r.below(30))))
		if wantSame(t, over(op(api.ExLen), over(op(api.ExRep), s, n)), over(op(api.ExMul), over(op(api.ExLen), s), n)) {
			some++
		}
	}
	if some < 4000 {
		t.Error(some)
	}
}

// P11.4, and rule 3

func TestPlacesPlayNoPart(t *testing.T) {
	r := lcg(117)
	for range 5000 {
		l := r.expression("ntby"[r.below(4)], 1+r.below(5))
		if r.below(3) == 0 {
			l = r.disturb(l)
		}
		other := r.scatter(l)
		at, err := expr.Check(l)
		wantCheck(t, other, at, err)
		for _, k := range someKinds() {
			v, at, err := expr.Value(l, k)
			wantTold(t, other, k, v, at, err)
		}
	}
}

func TestWhatIsHandedInStays(t *testing.T) {
	r := lcg(118)
	for range 3000 {
		l := r.scatter(r.expression("ntby"[r.below(4)], 1+r.below(5)))
		if r.below(3) == 0 {
			l = r.disturb(l)
		}
		l = append(slices.Clone(l), num(1), op(api.ExNeg), text("spare"))[:len(l)]
		was := slices.Clone(l[:len(l)+3])
		k := 1 + r.below(6)
		expr.Check(l)
		got, at, err := expr.Value(l, k)
		if !slices.Equal(l[:len(l)+3], was) {
			t.Fatalf("%s became %s", shown(was), shown(l[:len(l)+3]))
		}
		clear(l[:cap(l)])
		want, wantAt, wantErr := plainValue(was[:len(was)-3], k)
		if got != want || at != wantAt || err != wantErr {
			t.Errorf("%s of kind %d: %s, %d, %d behind the change", shown(was), k, shownValue(got), at, err)
		}
	}
}

// share: whether two texts have bytes in common.
func share(a string, b string) bool {
	if a == "" || b == "" {
		return false
	}
	first, second := uintptr(unsafe.Pointer(unsafe.StringData(a))), uintptr(unsafe.Pointer(unsafe.StringData(b)))
	return first < second+uintptr(len(b)) && second < first+uintptr(len(a))
}

func TestNewMemory(t *testing.T) {
	s, empty := strings.Clone("00ff a text of some bytes"), nodes(text(""))
	own := nodes(text(s))
	for _, l := range [][]api.Node{
		own, over(op(api.ExAdd), own, empty), over(op(api.ExAdd), empty, own), over(cat(1), own), over(cat(3), empty, own, empty), over(op(api.ExRep), own, nodes(num(1))), over(op(api.ExRep), over(cat(1), own), nodes(num(2))),
	} {
		first, _, err := expr.Value(l, textKind)
		second, _, _ := expr.Value(l, textKind)
		if err != api.OK || share(first.S, s) || share(first.S, second.S) {
			t.Errorf("Value(%s): %s, %d, shares memory", shown(l), shownValue(first), err)
		}
	}
	l := nodes(text(s[:4]), op(api.ExHex))
	first, _, _ := expr.Value(l, bytesKind)
	second, _, _ := expr.Value(l, bytesKind)
	if first.S != "\x00\xff" || share(first.S, s) || share(first.S, second.S) {
		t.Errorf("%s shares memory", shownValue(first))
	}
}

func TestNothingIsKeptFromCallToCall(t *testing.T) {
	r := lcg(119)
	one, bad, wrong := read(t, "1 + 2"), nodes(num(1), op(13)), read(t, `rep("a", -1)`)
	for range 500 {
		l := r.disturb(r.expression('t', 4))
		expr.Value(l, textKind)
		wantValue(t, one, uintKind, 3, "")
		wantNone(t, bad, 1, api.ErrArg)
		wantFault(t, wrong, textKind, 3, api.ErrValue)
		wantCheck(t, one, 0, api.OK)
	}
}

func TestCallsBesideOneAnother(t *testing.T) {
	r := lcg(120)
	var lists [][]api.Node
	for i := range 60 {
		l := r.expression("ntby"[r.below(4)], 1+r.below(5))
		if i%3 == 0 {
			l = r.disturb(l)
		}
		lists = append(lists, l)
	}
	var all sync.WaitGroup
	for range 8 {
		all.Go(func() {
			for range 20 {
				for _, l := range lists {
					wantPlain(t, l)
				}
			}
		})
	}
	all.Wait()
}
