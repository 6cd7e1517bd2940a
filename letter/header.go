package letter

import (
	"iter"
	"slices"
	"strings"

	"postbag/api"
	"postbag/octet"
)

// Split cuts a message into its header and its body.
func Split(raw string) (string, string) {
	// Without an empty line there is nothing behind the lines, not even its end.
	end := min(len(aheadOfEmpty(raw))+len(lineEnd), len(raw))
	return raw[:end], raw[end:]
}

// Fields reads a header.
func Fields(head string) []api.Field {
	var fields []api.Field
	for name, raw := range folds(head) {
		if len(fields) == api.MaxFields {
			break
		}
		if name != "" {
			fields = append(fields, api.Field{Name: name, Value: valueOf(raw), Raw: raw})
		}
	}
	return fields
}

// Get is the value of the first field of a name.
func Get(fields []api.Field, name string) api.Text {
	isNamed := func(f api.Field) bool { return octet.Same(f.Name, name) }
	if i := slices.IndexFunc(fields, isNamed); i >= 0 {
		return api.Text{Is: true, S: fields[i].Value}
	}
	return api.Text{}
}

// Pick is the lines of the fields that are named, or all other lines, and an empty line.
func Pick(head string, not bool, names ...string) string {
	// Counts by small letters, so that many names and many fields together stay quick.
	named := map[string]int{}
	for _, name := range names {
		named[octet.Lower(name)]++
	}
	// An empty name among names must not catch the lines that are no field's.
	isNamed := func(name string) bool { return name != "" && named[octet.Lower(name)] > 0 }
	var picked strings.Builder
	for name, raw := range folds(head) {
		if isNamed(name) == not {
			continue
		}
		picked.WriteString(raw)
		if !strings.HasSuffix(raw, lineEnd) {
			picked.WriteString(lineEnd)
		}
	}
	picked.WriteString(lineEnd)
	return picked.String()
}

// folds goes through a header: each line with those that go on behind it, and its field's name, which is empty where they are no field's.
func folds(head string) iter.Seq2[string, string] {
	return func(yield func(name, raw string) bool) {
		for rest := aheadOfEmpty(head); rest != ""; {
			n := lineLength(rest)
			name := fieldName(rest[:n])
			for n < len(rest) && isBlank(rest[n]) {
				n += lineLength(rest[n:])
			}
			if !yield(name, rest[:n]) {
				return
			}
			rest = rest[n:]
		}
	}
}

// aheadOfEmpty is the lines ahead of the first empty one.
func aheadOfEmpty(text string) string {
	if strings.HasPrefix(text, lineEnd) {
		return ""
	}
	lines, _, is := strings.Cut(text, lineEnd+lineEnd)
	if is {
		return text[:len(lines)+len(lineEnd)]
	}
	return text
}

// lineLength is how long the first line is, with its end.
func lineLength(text string) int {
	line, _, _ := strings.Cut(text, lineEnd)
	return min(len(line)+len(lineEnd), len(text))
}

// fieldName is the name that a line begins with, empty where it is no first line.
func fieldName(line string) string {
	n := 0
	for n < len(line) && isVisible(line[n]) && line[n] != ':' {
		n++
	}
	if strings.HasPrefix(strings.TrimLeft(line[n:], blanks), ":") {
		return line[:n]
	}
	return ""
}

func valueOf(raw string) string {
	_, value, _ := strings.Cut(raw, ":")
	return strings.Trim(strings.ReplaceAll(value, lineEnd, ""), blanks)
}

func isBlank(c byte) bool { return c == ' ' || c == '\t' }

func isVisible(c byte) bool { return '!' <= c && c <= '~' }
