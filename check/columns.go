package check

import (
	"slices"
	"strings"

	"stratum/api"
	"stratum/kind"
)

// columns are those that a type has at a moment. A history doesn't tell all of their names and kinds at all moments: a
// name that could be any is "", a kind that could be any 0.
type columns struct {
	made  []column // by their tags, from 1 on; those that are gone too
	there []int    // the tags, rising, of those that are there and of some that are gone
	names map[string]int
}

type column struct {
	name string
	kind int
	gone bool
}

func newColumns() *columns {
	return &columns{names: map[string]int{}}
}

// tagOf is the tag of the column that has a name; 0: none has it.
func (c *columns) tagOf(name string) int {
	return c.names[name]
}

// has: whether a column of this tag is there.
func (c *columns) has(tag int) bool {
	return tag >= 1 && tag <= len(c.made) && !c.made[tag-1].gone
}

// hasRoom: whether there are so many tags that weren't used yet.
func (c *columns) hasRoom(tags int) bool {
	return len(c.made)+tags <= api.MaxTag
}

// nextTag is the one that the next column gets.
func (c *columns) nextTag() int {
	return len(c.made) + 1
}

func (c *columns) add(name string, k int) int {
	tag := c.nextTag()
	c.made = append(c.made, column{kind: k})
	c.there = append(c.there, tag)
	c.rename(tag, name)
	return tag
}

func (c *columns) rename(tag int, name string) {
	col := &c.made[tag-1]
	delete(c.names, col.name)
	col.name = name
	if name != "" {
		c.names[name] = tag
	}
}

func (c *columns) drop(tag int) {
	c.rename(tag, "")
	c.made[tag-1].gone = true
}

func (c *columns) kindOf(tag int) int {
	return c.made[tag-1].kind
}

func (c *columns) retype(tag int, k int) {
	c.made[tag-1].kind = k
}

// canBe: whether a column is of a kind; where its kind could be any, that one it is from now on.
func (c *columns) canBe(tag int, k int) bool {
	if c.kindOf(tag) == 0 {
		c.retype(tag, k)
	}
	return c.kindOf(tag) == k
}

// tags are those of the columns that are there, rising. What is gone leaves the list here and not when it goes: so a
// version takes no more time than it has steps and columns.
func (c *columns) tags() []int {
	c.there = slices.DeleteFunc(c.there, func(tag int) bool { return !c.has(tag) })
	return c.there
}

// list is the columns that are there, in new memory.
func (c *columns) list() []api.Column {
	var all []api.Column
	for _, tag := range c.tags() {
		col := c.made[tag-1]
		all = append(all, api.Column{Name: strings.Clone(col.name), Tag: tag, Kind: col.kind})
	}
	return all
}

// are: whether the columns that are there are these.
func (c *columns) are(all []api.Column) bool {
	tags := c.tags()
	if len(tags) != len(all) {
		return false
	}
	for i, tag := range tags {
		col := all[i]
		if col.Tag != tag || col.Name != c.made[tag-1].name || !isKind(col.Kind) || !c.canBe(tag, col.Kind) {
			return false
		}
	}
	return true
}

func isKind(k int) bool {
	return kind.Name(k) != ""
}

// isText: whether a text of these bytes is valid.
func isText(s string) bool {
	return kind.Valid(api.Value{Kind: kind.Text(), S: s})
}
