package print_test

import (
	"fmt"
	"reflect"
	"regexp"
	"slices"
	"strings"

	"stratum/api"
)

// The calls as the chapter tells them: expressions on a stack of texts, steps by patterns, a step's fields by their names.

// words are chapter 9's eighteen.
var words = strings.Fields("event version add rename split join retype drop to at into with true false cat rep len hex")

// plainOps are the rows of chapter 9's table: the fields that a node uses, its kids, its text.
var plainOps = map[int]struct {
	uses string
	kids int
	form string
}{
	1: {"Num", 0, "%d"}, 2: {"Text", 0, ""}, 3: {"", 0, "true"}, 4: {"", 0, "false"}, 5: {"", 1, "-%s"},
	6: {"", 2, "(%s + %s)"}, 7: {"", 2, "(%s - %s)"}, 8: {"", 2, "(%s * %s)"},
	9: {"N", 0, "cat(%s)"}, 10: {"", 2, "rep(%s, %s)"}, 11: {"", 1, "len(%s)"}, 12: {"", 1, "hex(%s)"},
}

// plainSteps are the fields that a step uses, in their order, and its text.
var plainSteps = map[int]struct {
	names string
	form  string
}{
	1: {"A Type", "add %s: %s"}, 2: {"A B", "rename %s to %s"}, 3: {"A Sep B C", "split %s at %s into %s, %s"},
	4: {"A B Sep C", "join %s, %s with %s into %s"}, 5: {"A Type", "retype %s to %s"}, 6: {"A", "drop %s"},
}

func plainQuote(s string) string {
	out := `"`
	for _, c := range []byte(s) {
		switch {
		case c == '\\' || c == '"':
			out += `\` + string(rune(c))
		case c == '\n':
			out += `\n`
		case c == '\t':
			out += `\t`
		case c >= 0x20 && c <= 0x7e:
			out += string(rune(c))
		default:
			out += fmt.Sprintf(`\x%02x`, c)
		}
	}
	return out + `"`
}

var plainNames = regexp.MustCompile(`^[A-Za-z_][A-Za-z_0-9]{0,63}$`)

func isPlainName(s string) bool {
	return plainNames.MatchString(s) && !slices.Contains(words, s)
}

// isPlainNode: whether a node is a row of the table and has nothing in the fields that the row doesn't name.
func isPlainNode(n api.Node) bool {
	row, ok := plainOps[n.Op]
	v := reflect.ValueOf(n)
	for i := range v.NumField() {
		switch name := v.Type().Field(i).Name; name {
		case "Op", "At", row.uses:
		default:
			ok = ok && v.Field(i).IsZero()
		}
	}
	return ok && (row.uses != "N" || n.N > 0)
}

type made struct {
	text string
	deep int
}

// plainNodes is the text of an expression, how deep it is, and whether it is one.
func plainNodes(nodes []api.Node) (made, bool) {
	var stack []made
	for _, n := range nodes {
		row := plainOps[n.Op]
		kids := row.kids + n.N
		if !isPlainNode(n) || kids > len(stack) {
			return made{}, false
		}
		below := slices.Clone(stack[len(stack)-kids:])
		var texts []any
		deep := 0
		for _, k := range below {
			texts = append(texts, k.text)
			deep = max(deep, k.deep)
		}
		text := fmt.Sprintf(row.form, texts...)
		switch n.Op {
		case api.ExNumber:
			text = fmt.Sprintf(row.form, n.Num)
		case api.ExText:
			text = plainQuote(n.Text)
		case api.ExCat:
			all := strings.TrimSuffix(strings.Repeat("%s, ", kids), ", ")
			text = fmt.Sprintf(row.form, fmt.Sprintf(all, texts...))
		}
		stack = append(stack[:len(stack)-kids], made{text, deep + 1})
	}
	if len(stack) != 1 {
		return made{}, false
	}
	return stack[0], true
}

func plainValue(nodes []api.Node) (string, api.Errno) {
	m, ok := plainNodes(nodes)
	return plainAnswer(m.text, !ok, m.deep > 100)
}

// plainAnswer puts the errors in their order.
func plainAnswer(text string, none bool, deep bool) (string, api.Errno) {
	switch {
	case none:
		return "", api.ErrArg
	case deep:
		return "", api.ErrDepth
	case len(text) > 1048576:
		return "", api.ErrLong
	}
	return text, api.OK
}

// plainStep is a step's text, how deep its expression is, and whether it is a step.
func plainStep(s api.StepDecl) (made, bool) {
	row, ok := plainSteps[s.Kind]
	if !ok {
		return made{}, false
	}
	v := reflect.ValueOf(s)
	for _, name := range []string{"A", "B", "C", "Sep", "Type"} {
		text := v.FieldByName(name).String()
		used := slices.Contains(strings.Fields(row.names), name)
		if used && name != "Sep" && !isPlainName(text) || !used && text != "" {
			return made{}, false
		}
	}
	var texts []any
	for _, name := range strings.Fields(row.names) {
		text := v.FieldByName(name).String()
		if name == "Sep" {
			text = plainQuote(text)
		}
		texts = append(texts, text)
	}
	text := fmt.Sprintf(row.form, texts...)
	if len(s.Value) == 0 {
		return made{text + ";\n", 0}, true
	}
	value, ok := plainNodes(s.Value)
	return made{text + " = " + value.text + ";\n", value.deep}, ok && s.Kind == 1
}

func plainSchema(t api.Schema) (string, api.Errno) {
	var out strings.Builder
	none, deep := false, false
	for _, e := range t.Events {
		none = none || !isPlainName(e.Name) || len(e.Versions) == 0
		out.WriteString("event " + e.Name + " {\n")
		for _, v := range e.Versions {
			out.WriteString(fmt.Sprintf("  version %d {\n", v.Number))
			for _, s := range v.Steps {
				m, ok := plainStep(s)
				none, deep = none || !ok, deep || m.deep > 100
				out.WriteString("    " + m.text)
			}
			out.WriteString("  }\n")
		}
		out.WriteString("}\n")
	}
	return plainAnswer(out.String(), none, deep)
}
