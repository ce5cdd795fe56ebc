// Package roll is layer 1: books of entries: families, numbers, names. See shared/doc/01-roll.md.
package roll

import (
	"slices"
	"strings"

	"stratum/api"
)

// Book is a book of entries.
type Book struct {
	entries []api.Entry
	closed  [api.Folds + 1]bool // by a family's own number, so place 0 is no family's
}

// New: a book without entries, all families open.
func New() *Book { return &Book{} }

// Enter: a new entry: its number in its family; ErrNil, ErrArg, ErrClosed, ErrTwice, ErrRoom.
func (b *Book) Enter(family int, name string, size int) (int, api.Errno) {
	if err := b.refusal(family, name, size); err != api.OK {
		return 0, err
	}
	number := b.Count(family) + 1
	b.entries = append(b.entries, api.Entry{
		Family: family,
		Number: number,
		Name:   strings.Clone(name), // it may be a piece of a long text, which the book would hold on to
		Size:   size,
	})
	return number, api.OK
}

// refusal: the error of Enter. Where several apply the chapter's order decides, so the checks stand in it.
func (b *Book) refusal(family int, name string, size int) api.Errno {
	switch {
	case b == nil:
		return api.ErrNil
	case !isFamily(family) || !isName(name) || size < 0:
		return api.ErrArg
	case b.closed[family]:
		return api.ErrClosed
	case b.Find(family, name) != 0:
		return api.ErrTwice
	case len(b.entries) >= api.MaxEntries:
		return api.ErrRoom
	}
	return api.OK
}

// Close: a family takes no entry any more.
func (b *Book) Close(family int) {
	if b == nil || !isFamily(family) {
		return
	}
	b.closed[family] = true
}

// Open: whether a family takes entries.
func (b *Book) Open(family int) bool {
	return b != nil && isFamily(family) && !b.closed[family]
}

// All: the entries, in the order in which they were entered.
func (b *Book) All() []api.Entry {
	if b == nil {
		return nil
	}
	return slices.Clone(b.entries)
}

// Find: the number of a name in a family; 0: there is none.
func (b *Book) Find(family int, name string) int {
	if b == nil {
		return 0
	}
	for _, e := range b.entries {
		if e.Family == family && e.Name == name {
			return e.Number
		}
	}
	return 0
}

// At: the entry of a number in a family; false: there is none.
func (b *Book) At(family int, number int) (api.Entry, bool) {
	if b == nil {
		return api.Entry{}, false
	}
	for _, e := range b.entries {
		if e.Family == family && e.Number == number {
			return e, true
		}
	}
	return api.Entry{}, false
}

// Count: how many entries a family has.
func (b *Book) Count(family int) int {
	if b == nil {
		return 0
	}
	n := 0
	for _, e := range b.entries {
		if e.Family == family {
			n++
		}
	}
	return n
}

func isFamily(family int) bool {
	return family >= api.Kinds && family <= api.Folds
}

func isName(name string) bool {
	if len(name) == 0 || len(name) > api.MaxWord {
		return false
	}
	// Byte by byte: a rune of several bytes is no letter here, and bytes that are no rune at all may come in.
	for i := range len(name) {
		if c := name[i]; c != '-' && (c < 'a' || c > 'z') {
			return false
		}
	}
	return true
}
