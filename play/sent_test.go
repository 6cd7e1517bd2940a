package play

import (
	"testing"

	"postbag/api"
)

// P20.5: a text that is sent is cut behind each byte 10, whether it ends in one or not; Closed stands behind it. (A server's texts all end in CR LF.)
func TestSentPieces(t *testing.T) {
	for _, c := range []struct {
		sent api.Sent
		want string
	}{
		{api.Sent{Conn: 1}, ""},
		{api.Sent{Conn: 1, Text: "a"}, "  to 1 \"a\"\n"},
		{api.Sent{Conn: 2, Text: "a\r\nb"}, "  to 2 \"a\\r\\n\"\n  to 2 \"b\"\n"},
		{api.Sent{Conn: 3, Text: "a\n\nb\r\n"}, "  to 3 \"a\\n\"\n  to 3 \"\\n\"\n  to 3 \"b\\r\\n\"\n"},
		{api.Sent{Conn: 4, Text: "\n"}, "  to 4 \"\\n\"\n"},
		{api.Sent{Conn: 4, Text: "\r"}, "  to 4 \"\\r\"\n"},
		{api.Sent{Conn: 4, Text: "\n\r"}, "  to 4 \"\\n\"\n  to 4 \"\\r\"\n"},
		{api.Sent{Conn: 1, Text: "\xe2\x80\xa8\x85\v\f\x00\xff"}, `  to 1 "\xe2\x80\xa8\x85\x0b\x0c\x00\xff"` + "\n"},
		{api.Sent{Conn: 1, Closed: true}, "  closed 1\n"},
		{api.Sent{Conn: 2, Text: "a\r\nb", Closed: true}, "  to 2 \"a\\r\\n\"\n  to 2 \"b\"\n  closed 2\n"},
	} {
		var tr transcript
		tr.sent(c.sent)
		if got := tr.String(); got != c.want {
			t.Errorf("P20.5: %+v: %q, not %q", c.sent, got, c.want)
		}
	}
}
