package grammar_test

import (
	"strings"
	"testing"

	"stratum/grammar"
)

// eighteen are the words as chapter 9 has them, in its order.
const eighteen = "event version add rename split join retype drop to at into with true false cat rep len hex"

func TestConstants(t *testing.T) {
	got := []string{
		grammar.Event, grammar.Version, grammar.Add, grammar.Rename, grammar.Split, grammar.Join, grammar.Retype, grammar.Drop,
		grammar.To, grammar.At, grammar.Into, grammar.With, grammar.True, grammar.False, grammar.Cat, grammar.Rep, grammar.Len, grammar.Hex,
	}
	if s := strings.Join(got, " "); s != eighteen {
		t.Errorf("%s, not %s", s, eighteen)
	}
}

func TestIsWord(t *testing.T) {
	for _, word := range strings.Fields(eighteen) {
		if !grammar.IsWord(word) {
			t.Errorf("%s is a word", word)
		}
		for _, other := range []string{word + "s", word[1:] + "x", word[:1], strings.ToUpper(word), strings.ToUpper(word[:1]) + word[1:], "_" + word, word + " ", " " + word, word + "\x00", word + word, `"` + word + `"`} {
			if grammar.IsWord(other) {
				t.Errorf("%q is no word", other)
			}
		}
	}
	for _, other := range []string{"", " ", "a", "x", "uint", "int", "bool", "text", "bytes", "+", "{", "1", eighteen, "as", "from", "type", "field"} {
		if grammar.IsWord(other) {
			t.Errorf("%q is no word", other)
		}
	}
}
