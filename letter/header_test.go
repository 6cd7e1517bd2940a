package letter_test

import (
	"fmt"
	"math/rand/v2"
	"regexp"
	"slices"
	"strings"
	"testing"

	"postbag/api"
	"postbag/letter"
)

const end = "\r\n"

// handed is a list that is handed in, with spare room behind its end, and both as they were.
type handed[E comparable] struct {
	list, before []E
}

func withSpare[E comparable](l []E) handed[E] {
	full := slices.Concat(l, l, make([]E, 3))
	return handed[E]{full[:len(l)], slices.Clone(full)}
}

func (h handed[E]) isChanged() bool { return !slices.Equal(h.list[:len(h.before)], h.before) }

// overwrite writes upon all of an answer, its spare room too.
func overwrite[E any](l []E) { clear(l[:cap(l)]) }

// pieced puts random pieces one behind the other.
func pieced(r *rand.Rand, most int, pieces ...string) string {
	var out strings.Builder
	for range r.IntN(most + 1) {
		out.WriteString(pieces[r.IntN(len(pieces))])
	}
	return out.String()
}

// wantSplit tries each place in turn, from the left.
func wantSplit(raw string) (string, string) {
	for i := range len(raw) + 1 {
		if raw[:i] == end || strings.HasSuffix(raw[:i], end+end) {
			return raw[:i], raw[i:]
		}
	}
	return raw, ""
}

// lookAtSplit: P5.1, P5.10.
func lookAtSplit(t *testing.T, raw string) {
	t.Helper()
	head, body := letter.Split(raw)
	if wantHead, wantBody := wantSplit(raw); head != wantHead || body != wantBody {
		t.Errorf("Split(%.90q): %.90q, %.90q, not %.90q, %.90q", raw, head, body, wantHead, wantBody)
	}
	if head+body != raw {
		t.Errorf("Split(%.90q): joined %.90q", raw, head+body)
	}
}

// P5.1
func TestSplit(t *testing.T) {
	for _, c := range []struct{ raw, head, body string }{
		{"A: b\r\n\r\nx", "A: b\r\n\r\n", "x"},
		{"\r\nx", "\r\n", "x"},
		{"A: b\r\n", "A: b\r\n", ""},
		{"", "", ""},
		{"\r\n", "\r\n", ""},
		{"\r\n\r\n", "\r\n", "\r\n"},
		{"a", "a", ""},
		{"a\r\n\r\n", "a\r\n\r\n", ""},
		{"a\r\n\r\nb\r\n\r\nc", "a\r\n\r\n", "b\r\n\r\nc"},
		{"a\r\nb\r\n\r\n\r\nc", "a\r\nb\r\n\r\n", "\r\nc"},
		{"a\r\nb", "a\r\nb", ""},
		{"\r", "\r", ""},
		{"\n", "\n", ""},
		{"\n\r\n", "\n\r\n", ""},
		{"\r\r\n", "\r\r\n", ""},
		{"\r\r\n\nx", "\r\r\n\nx", ""},
		{"\r\r\n\r\nx", "\r\r\n\r\n", "x"},
		{"a\r\r\n\n\r\nb", "a\r\r\n\n\r\nb", ""},
		{"a\n\nb", "a\n\nb", ""},
		{"a\r\rb", "a\r\rb", ""},
		{"a\r\n\r", "a\r\n\r", ""},
		{"a\r\n\n\r\nb", "a\r\n\n\r\nb", ""},
		{"a\r\n \r\nb", "a\r\n \r\nb", ""},
		{"a\r\n\r\r\nb", "a\r\n\r\r\nb", ""},
		{"\xff\x00\r\n\r\n\xff", "\xff\x00\r\n\r\n", "\xff"},
	} {
		if head, body := letter.Split(c.raw); head != c.head || body != c.body {
			t.Errorf("Split(%q): %q, %q, not %q, %q", c.raw, head, body, c.head, c.body)
		}
		lookAtSplit(t, c.raw)
	}
}

// P5.1, P5.10: every text of up to nine bytes of CR, LF and another one.
func TestSplitOfAllShortTexts(t *testing.T) {
	texts := []string{""}
	for i := 0; len(texts[i]) < 9; i++ {
		texts = append(texts, texts[i]+"\r", texts[i]+"\n", texts[i]+"a")
	}
	for _, raw := range texts {
		lookAtSplit(t, raw)
	}
}

var formOfFirst = regexp.MustCompile(`\A([!-9;-~]+)[ \t]*:`)

// wantLine is a line as the reference sees it: of, the number of its field, is -1 where it is no field's.
type wantLine struct {
	text string
	of   int
}

// wantLines takes the header line by line, and remembers which field was the last line's; names has the fields' names.
func wantLines(head string) (lines []wantLine, names []string) {
	of := -1
	for _, text := range strings.SplitAfter(head, end) {
		if text == end || text == "" {
			break
		}
		if name := formOfFirst.FindStringSubmatch(text); name != nil {
			of = len(names)
			names = append(names, name[1])
		} else if text[0] != ' ' && text[0] != '\t' {
			of = -1
		}
		lines = append(lines, wantLine{text, of})
	}
	return lines, names
}

func wantFields(head string) []api.Field {
	lines, names := wantLines(head)
	fields := make([]api.Field, len(names))
	values := make([]string, len(names))
	for _, l := range lines {
		if l.of >= 0 {
			fields[l.of].Raw += l.text
			values[l.of] += strings.TrimSuffix(l.text, end)
		}
	}
	for i, name := range names {
		fields[i].Name = name
		value := values[i][strings.IndexByte(values[i], ':')+1:]
		fields[i].Value = regexp.MustCompile(`(?s)\A[ \t]*(.*?)[ \t]*\z`).ReplaceAllString(value, "${1}")
	}
	return fields[:min(len(fields), 64)]
}

func wantPick(head string, not bool, names ...string) string {
	lines, of := wantLines(head)
	out := ""
	for _, l := range lines {
		is := false
		for _, name := range names {
			is = is || l.of >= 0 && strings.EqualFold(name, of[l.of])
		}
		if is != not {
			out += strings.TrimSuffix(l.text, end) + end
		}
	}
	return out + end
}

// lookAtFields: P5.2, P5.13.
func lookAtFields(t *testing.T, head string) {
	t.Helper()
	want := wantFields(head)
	for range 2 {
		got := letter.Fields(head)
		if !slices.Equal(got, want) {
			t.Errorf("Fields(%.200q): %.200q, not %.200q", head, fmt.Sprint(got), fmt.Sprint(want))
		}
		overwrite(got)
	}
}

// lookAtPick: P5.4; names of ASCII alone.
func lookAtPick(t *testing.T, head string, names ...string) {
	t.Helper()
	given := withSpare(names)
	for _, not := range []bool{false, true} {
		got, want := letter.Pick(head, not, given.list...), wantPick(head, not, names...)
		if got != want {
			t.Errorf("Pick(%.200q, %v, %.90q): %.200q, not %.200q", head, not, names, got, want)
		}
	}
	if given.isChanged() {
		t.Errorf("Pick(%q, .., %q): the names are %q now", head, names, given.list)
	}
}

// field makes one as an answer should have it.
func field(name, value, raw string) api.Field {
	return api.Field{Name: name, Value: value, Raw: raw}
}

// P5.2
func TestFields(t *testing.T) {
	for _, c := range []struct {
		head string
		want []api.Field
	}{
		{"", nil},
		{"\r\n", nil},
		{"\r\nA: b\r\n", nil},
		{"A: b", []api.Field{field("A", "b", "A: b")}},
		{"A: b\r\n", []api.Field{field("A", "b", "A: b\r\n")}},
		{"A : b\r\n\tc \r\nno field\r\n d\r\nb:\r\n\r\nC: d", []api.Field{field("A", "b\tc", "A : b\r\n\tc \r\n"), field("b", "", "b:\r\n")}},
		// names
		{"A \t \t: b\r\n", []api.Field{field("A", "b", "A \t \t: b\r\n")}},
		{":\r\n", nil},
		{": b\r\n", nil},
		{" : b\r\n", nil},
		{"A b: c\r\n", nil},
		{"A\x00: b\r\n", nil},
		{"A\x1f: b\r\n", nil},
		{"A\x7f: b\r\n", nil},
		{"A\x80: b\r\n", nil},
		{"\xffA: b\r\n", nil},
		{"é: b\r\n", nil},
		{"A\r: b\r\n", nil},
		{"A\n: b\r\n", nil},
		{"A \r\n: b\r\n", nil},
		{"A", nil},
		{"A \r\n", nil},
		{"!~()<>@,;\\\"/[]?={}: b\r\n", []api.Field{field("!~()<>@,;\\\"/[]?={}", "b", "!~()<>@,;\\\"/[]?={}: b\r\n")}},
		{"A::b:\r\n", []api.Field{field("A", ":b:", "A::b:\r\n")}},
		// lines that go on
		{" x\r\nA: b\r\n", []api.Field{field("A", "b", "A: b\r\n")}},
		{"\tx: y\r\n z: y\r\n", nil},
		{"A: b\r\n c: d\r\n", []api.Field{field("A", "b c: d", "A: b\r\n c: d\r\n")}},
		{"A: b\r\nno\r\n c\r\n\td\r\nB: c\r\n", []api.Field{field("A", "b", "A: b\r\n"), field("B", "c", "B: c\r\n")}},
		{"A: b\r\n : c\r\n: d\r\n e\r\n", []api.Field{field("A", "b : c", "A: b\r\n : c\r\n")}},
		{"A: b\r\n \r\n\t\r\n c\r\n\r\n", []api.Field{field("A", "b \t c", "A: b\r\n \r\n\t\r\n c\r\n")}},
		{"A:\r\n \r\n\t", []api.Field{field("A", "", "A:\r\n \r\n\t")}},
		{"A\r\n : b\r\n", nil},
		{"A: b\r\n ", []api.Field{field("A", "b", "A: b\r\n ")}},
		{"A: b\r\nB", []api.Field{field("A", "b", "A: b\r\n")}},
		{"A: b\r\nB:", []api.Field{field("A", "b", "A: b\r\n"), field("B", "", "B:")}},
		// values
		{"A:b\r\n", []api.Field{field("A", "b", "A:b\r\n")}},
		{"A: \t b c\t \r\n", []api.Field{field("A", "b c", "A: \t b c\t \r\n")}},
		{"A:  \t  \r\n", []api.Field{field("A", "", "A:  \t  \r\n")}},
		{"A:\r\n  b\r\n", []api.Field{field("A", "b", "A:\r\n  b\r\n")}},
		{"A: \rb\n \r\n", []api.Field{field("A", "\rb\n", "A: \rb\n \r\n")}},
		{"A: b\r\r\n \nc\r\n", []api.Field{field("A", "b\r \nc", "A: b\r\r\n \nc\r\n")}},
		{"A: b\r", []api.Field{field("A", "b\r", "A: b\r")}},
		{"A: b\n c\nB: d\r\n", []api.Field{field("A", "b\n c\nB: d", "A: b\n c\nB: d\r\n")}},
		{"A: \x00\xff\x80 \x0b\x0c\u00a0\r\n", []api.Field{field("A", "\x00\xff\x80 \x0b\x0c\u00a0", "A: \x00\xff\x80 \x0b\x0c\u00a0\r\n")}},
		// the same name again
		{"A: 1\r\na: 2\r\nA: 1\r\n", []api.Field{field("A", "1", "A: 1\r\n"), field("a", "2", "a: 2\r\n"), field("A", "1", "A: 1\r\n")}},
	} {
		if got := letter.Fields(c.head); !slices.Equal(got, c.want) {
			t.Errorf("Fields(%q): %q, not %q", c.head, got, c.want)
		}
		lookAtFields(t, c.head)
		lookAtPick(t, c.head)
		lookAtPick(t, c.head, "a")
		lookAtPick(t, c.head, "", "B", "q")
	}
}

// P5.2: each byte, in a name, at its beginning, ahead of the colon, at both ends of a value.
func TestFieldsOfEachByte(t *testing.T) {
	for c := range 256 {
		b := string([]byte{byte(c)})
		isName := c >= 33 && c <= 126 && c != ':'
		if got := len(letter.Fields(b + "A: b\r\n")); (got == 1) != isName {
			t.Errorf("byte %d ahead of a name: %d fields", c, got)
		}
		if got := len(letter.Fields(b + ": b\r\n")); (got == 1) != isName {
			t.Errorf("byte %d as a name: %d fields", c, got)
		}
		if got := len(letter.Fields("A" + b + "B: b\r\n")); (got == 1) != (isName || c == ':') {
			t.Errorf("byte %d within a name: %d fields", c, got)
		}
		if got := len(letter.Fields("A" + b + ": b\r\n")); (got == 1) != (isName || c == ':' || c == ' ' || c == '\t') {
			t.Errorf("byte %d behind a name: %d fields", c, got)
		}
		want := "x" + b + "x"
		if c != ' ' && c != '\t' {
			want = b + want + b
		}
		if got := letter.Fields("A:" + b + "x" + b + "x" + b + "\r\n"); len(got) != 1 || got[0].Value != want {
			t.Errorf("byte %d in a value: %q", c, got)
		}
		for _, head := range []string{b, b + "A: b", "A: b\r\n" + b, "A: b\r\n" + b + "c\r\nB: c", "A" + b + ": b", "A:" + b + "\r\n"} {
			lookAtFields(t, head)
			lookAtPick(t, head, "a", "B")
		}
	}
}

// numbered is a header of n fields, each with a line that goes on.
func numbered(n int) string {
	var head strings.Builder
	for i := range n {
		fmt.Fprintf(&head, "F%d: v%d\r\n w\r\n", i, i)
	}
	return head.String()
}

// P5.2: MaxFields fields are told, and not one more; lines that are no field's are not counted.
func TestFieldsAtTheBound(t *testing.T) {
	for _, n := range []int{0, 1, 62, 63, 64, 65, 66, 200} {
		for _, head := range []string{numbered(n), "x\r\n" + numbered(n) + "y\r\n z\r\n\r\nB: c", strings.ReplaceAll(numbered(n), "F", "no\r\nF")} {
			got := letter.Fields(head)
			if len(got) != min(n, 64) {
				t.Errorf("%d fields: %d are told", n, len(got))
			}
			for i, f := range got {
				if f != field(fmt.Sprint("F", i), fmt.Sprintf("v%d w", i), fmt.Sprintf("F%d: v%d\r\n w\r\n", i, i)) {
					t.Errorf("%d fields: the one at %d is %q", n, i, f)
				}
			}
			lookAtFields(t, head)
		}
	}
}

// randomHead is a header of any kind, most of them with some sense in them.
func randomHead(r *rand.Rand) string {
	return pieced(r, 12, "A: b\r\n", "a :c\r\n", "B: ", "b", "C", ":", " ", "\t", "\r\n", "\r\n", "\r\n ", "\r\n\t", "\r", "\n", "x y\r\n", "\x00", "\x7f", "\xff", "é", "To: a@b\r\n", "TO:\r\n\tc@d\r\n", "\r\n\r\n")
}

// P5.2, P5.4, P5.13: against a reader of another make.
func TestHeadersOfManyKinds(t *testing.T) {
	r := rand.New(rand.NewPCG(5, 2))
	for range 60000 {
		head := randomHead(r)
		lookAtSplit(t, head)
		lookAtFields(t, head)
		lookAtPick(t, head, strings.Fields(pieced(r, 4, "a ", "B ", "c ", "tO ", "x ", ": "))...)
	}
}

// P5.3
func TestGet(t *testing.T) {
	fields := []api.Field{field("A", "1", ""), field("b", "", ""), field("a", "2", ""), field("B", "3", ""), field("", "4", ""), field("X-Y", "5", ""), field("\xc4", "6", ""), field("k", "7", "")}
	given := withSpare(fields)
	for _, c := range []struct {
		name string
		want api.Text
	}{
		{"A", api.Text{Is: true, S: "1"}},
		{"a", api.Text{Is: true, S: "1"}},
		{"b", api.Text{Is: true}},
		{"B", api.Text{Is: true}},
		{"x-y", api.Text{Is: true, S: "5"}},
		{"X-y", api.Text{Is: true, S: "5"}},
		{"", api.Text{Is: true, S: "4"}},
		{"\xc4", api.Text{Is: true, S: "6"}},
		{"\xe4", api.Text{}},
		{"\u212a", api.Text{}}, // the sign of Kelvin: a k, but not in ASCII
		{"K", api.Text{Is: true, S: "7"}},
		{"c", api.Text{}},
		{"A ", api.Text{}},
		{"A:", api.Text{}},
		{"X", api.Text{}},
	} {
		if got := letter.Get(given.list, c.name); got != c.want {
			t.Errorf("Get(.., %q): %v, not %v", c.name, got, c.want)
		}
	}
	if given.isChanged() {
		t.Errorf("the fields are %q now", given.list)
	}
	for _, none := range [][]api.Field{nil, {}, fields[:0]} {
		if got := letter.Get(none, "A"); got != (api.Text{}) {
			t.Errorf("Get of no fields: %v", got)
		}
	}
}

// P5.3: what is found hangs on the fields that are handed in now, not on where they lie.
func TestGetAtTheSamePlace(t *testing.T) {
	fields := []api.Field{field("A", "1", ""), field("B", "2", "")}
	if got := letter.Get(fields, "b"); got.S != "2" {
		t.Errorf("Get: %v", got)
	}
	fields[0], fields[1] = field("b", "3", ""), field("a", "4", "")
	if got := letter.Get(fields, "b"); got.S != "3" {
		t.Errorf("Get of other fields: %v", got)
	}
	if got := letter.Get(fields[1:], "b"); got.Is {
		t.Errorf("Get of fewer fields: %v", got)
	}
}

// P5.3: the Value counts as it stands, whatever Raw says.
func TestGetOfFieldsThatNoHeaderHas(t *testing.T) {
	if got := letter.Get([]api.Field{field("a b:\r\n", " v\r\n ", "A: w\r\n")}, "A B:\r\n"); got != (api.Text{Is: true, S: " v\r\n "}) {
		t.Errorf("Get: %v", got)
	}
}

// P5.4
func TestPick(t *testing.T) {
	const mixed = "go on\r\n A: no\r\nA: 1\r\n b\r\nx\r\nB : 2\r\n\t3\r\na:4\r\nC:"
	for _, c := range []struct {
		head  string
		not   bool
		names []string
		want  string
	}{
		{"A: 1\r\nx\r\nB: 2", false, []string{"b", "q"}, "B: 2\r\n\r\n"},
		{"A: 1\r\nx\r\nB: 2", true, []string{"b", "q"}, "A: 1\r\nx\r\n\r\n"},
		{"", false, nil, "\r\n"},
		{"", true, nil, "\r\n"},
		{"", true, []string{"a"}, "\r\n"},
		{"\r\nA: 1", true, nil, "\r\n"},
		{"A: 1\r\n\r\nB: 2", true, nil, "A: 1\r\n\r\n"},
		{"A: 1\r\n\r\nB: 2", false, []string{"b"}, "\r\n"},
		{"A: 1\r\n\r\nA: 2", false, []string{"a"}, "A: 1\r\n\r\n"},
		{"A: 1\r\n", false, nil, "\r\n"},
		{mixed, false, []string{"a"}, "A: 1\r\n b\r\na:4\r\n\r\n"},
		{mixed, false, []string{"A", "a", "A"}, "A: 1\r\n b\r\na:4\r\n\r\n"},
		{mixed, true, []string{"A"}, "go on\r\n A: no\r\nx\r\nB : 2\r\n\t3\r\nC:\r\n\r\n"},
		{mixed, false, []string{"c", "b"}, "B : 2\r\n\t3\r\nC:\r\n\r\n"},
		{mixed, true, []string{"c", "b", "a"}, "go on\r\n A: no\r\nx\r\n\r\n"},
		{mixed, true, nil, mixed + "\r\n\r\n"},
		{mixed, false, []string{""}, "\r\n"},
		{mixed, true, []string{""}, mixed + "\r\n\r\n"},
		{mixed, false, []string{"x", "go on", " A", "A:", "q"}, "\r\n"},
		{"A: 1\r", false, []string{"a"}, "A: 1\r\r\n\r\n"},
		{"A: 1\n", true, nil, "A: 1\n\r\n\r\n"},
		{"x", true, nil, "x\r\n\r\n"},
		{"k: 1\r\n", false, []string{"\u212a"}, "\r\n"},
	} {
		given := withSpare(c.names)
		if got := letter.Pick(c.head, c.not, given.list...); got != c.want {
			t.Errorf("Pick(%q, %v, %q): %q, not %q", c.head, c.not, c.names, got, c.want)
		}
		if given.isChanged() {
			t.Errorf("Pick(%q, %v, %q): the names are %q now", c.head, c.not, c.names, given.list)
		}
	}
}

// P5.4: all fields count, however many.
func TestPickOfMoreThanIsTold(t *testing.T) {
	for _, n := range []int{63, 64, 65, 300} {
		head := numbered(n)
		for i := range n {
			want := fmt.Sprintf("F%d: v%d\r\n w\r\n\r\n", i, i)
			if got := letter.Pick(head, false, fmt.Sprint("f", i)); got != want {
				t.Errorf("of %d fields the one at %d: %q", n, i, got)
			}
			lookAtPick(t, head, fmt.Sprint("F", i))
		}
	}
}

// plainHead is one of at most MaxFields fields, without a line that is no field's.
func plainHead(r *rand.Rand) string {
	head := pieced(r, 20, "A: b\r\n", "a :c\r\n\t\r\n", "B:\r\n x\r\n", "To: a@b\r\n", "TO:\r\n\tc@d\r\n", "Cc\t: \x00\xff\r\n", "c: \r\n", "x-Y: \r \n\r\n \r\n")
	if r.IntN(2) == 0 {
		head = strings.TrimSuffix(head, end)
	}
	return head
}

// P5.10: the Raws are the lines; named and others have each line just once.
func TestNoLineIsLost(t *testing.T) {
	r := rand.New(rand.NewPCG(5, 10))
	for range 20000 {
		lines := plainHead(r)
		head := lines
		if strings.HasSuffix(lines, end) || lines == "" {
			head = lines + []string{"", end, end + "x", end + end, end + "A: z"}[r.IntN(5)]
		}
		joined := ""
		for _, f := range letter.Fields(head) {
			joined += f.Raw
		}
		if joined != lines {
			t.Errorf("the Raws of %q: %q", head, joined)
		}
		names := strings.Fields(pieced(r, 3, "a ", "B ", "to ", "cc ", "C ", "X-y "))
		got := strings.SplitAfter(letter.Pick(head, false, names...)+letter.Pick(head, true, names...), end)
		want := strings.SplitAfter(lines, end)
		if last := len(want) - 1; want[last] != "" {
			want[last] += end
			want = append(want, "")
		}
		want = append(want, end, end)
		if slices.Sort(got); !slices.Equal(got, sorted(want)) {
			t.Errorf("Pick(%q, .., %q): the lines are %q", head, names, got)
		}
	}
}

func sorted(l []string) []string {
	l = slices.Clone(l)
	slices.Sort(l)
	return l
}

// P5.11: the fields of what is picked are those of the header with these names.
func TestFieldsOfPick(t *testing.T) {
	r := rand.New(rand.NewPCG(5, 11))
	for range 40000 {
		head := randomHead(r)
		names := strings.Fields(pieced(r, 3, "a ", "B ", "to ", "c ", "x "))
		var want []api.Field
		for _, f := range letter.Fields(head) {
			if slices.ContainsFunc(names, func(n string) bool { return strings.EqualFold(n, f.Name) }) {
				f.Raw = strings.TrimSuffix(f.Raw, end) + end
				want = append(want, f)
			}
		}
		if got := letter.Fields(letter.Pick(head, false, names...)); !slices.Equal(got, want) {
			t.Errorf("Fields(Pick(%q, false, %q)): %q, not %q", head, names, got, want)
		}
	}
}

// P5.13: long headers.
func TestLongHeaders(t *testing.T) {
	const n = 100000
	long := strings.Repeat("x", n)
	head := "A: 1\r\n" + strings.Repeat(" go on\r\n", n) + "B" + strings.Repeat(" ", n) + ":" + strings.Repeat("\t", n)
	got := letter.Fields(head)
	if len(got) != 2 || len(got[0].Value) != 1+n*len(" go on") || got[1].Value != "" || got[0].Raw+got[1].Raw != head {
		t.Errorf("a header of long fields: %d fields", len(got))
	}
	if got := letter.Fields(long + ":" + long); len(got) != 1 || got[0].Name != long || got[0].Value != long {
		t.Errorf("a long name: %d fields", len(got))
	}
	if got := letter.Fields(strings.Repeat("no\r\n", n) + "A: b"); len(got) != 1 {
		t.Errorf("behind many lines that are no field's: %d fields", len(got))
	}
	many := strings.Repeat("A: b\r\nc\r\n", n)
	if got, _ := letter.Split(many + end + many); len(got) != len(many)+2 {
		t.Errorf("a long header: %d bytes", len(got))
	}
	names := make([]string, n)
	for i := range names {
		names[i] = fmt.Sprint("Name-", i)
	}
	if got := letter.Pick(strings.Repeat("Name-x: b\r\n", n)+"nAME-777: c\r\n", false, names...); got != "nAME-777: c\r\n\r\n" {
		t.Errorf("many names: %.90q", got)
	}
	if got := letter.Pick(strings.Repeat("\r", n)+strings.Repeat("\n", n)+strings.Repeat(end, n), true); got != strings.Repeat("\r", n)+strings.Repeat("\n", n)+end+end {
		t.Errorf("many ends: %d bytes", len(got))
	}
}
