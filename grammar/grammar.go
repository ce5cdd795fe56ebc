// Package grammar has the words of the language, for the layers that read, write and check its texts.
package grammar

// The words of the language. None of them is a name in a tree.
const (
	Event   = "event"
	Version = "version"
	Add     = "add"
	Rename  = "rename"
	Split   = "split"
	Join    = "join"
	Retype  = "retype"
	Drop    = "drop"
	To      = "to"
	At      = "at"
	Into    = "into"
	With    = "with"
	True    = "true"
	False   = "false"
	Cat     = "cat"
	Rep     = "rep"
	Len     = "len"
	Hex     = "hex"
)

// IsWord: whether a text is one of the words.
func IsWord(s string) bool {
	switch s {
	case Event, Version, Add, Rename, Split, Join, Retype, Drop,
		To, At, Into, With,
		True, False, Cat, Rep, Len, Hex:
		return true
	}
	return false
}
