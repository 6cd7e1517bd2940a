package session_test

import (
	"fmt"
	"slices"
	"strings"
	"testing"

	"postbag/api"
)

// library is a house with five messages in INBOX, of the uids 10 to 14; the first connection has it selected.
func library(t *testing.T) *house {
	t.Helper()
	rules := someRules()
	rules.Uid = 10
	h := entered(t, 2, rules)
	h.add(1, "inbox", "", "Subject: c\r\nFrom: z@x\r\nMessage-Id: <1@x>\r\n\r\n12345")
	h.add(1, "inbox", `\Seen`, "Subject: Re: c\r\nReferences: <1@x>\r\n\r\n1")
	h.add(1, "inbox", `\Flagged k`, "Subject: a\r\nFrom: a@x\r\n\r\n123")
	h.done(1, "s SELECT inbox", "s UNSELECT") // it takes what is recent
	h.add(1, "inbox", "", "Subject: b\r\n\r\n", "Subject: a\r\n\r\n12")
	h.done(0, "s EXAMINE inbox")
	return h
}

// P17.9: what is found, by number and by uid.
func TestSearch(t *testing.T) {
	// The second one has gone, and that was not told; nor was the uid 16.
	before := func() *house {
		h := library(t)
		h.commit(h.store().Add("INBOX", nil, now, "six"))
		h.commit(h.store().Expunge(1, []int{12}))
		h.done(0, "n NOOP") // 10, 11, 13, 14, 15
		h.commit(h.store().Add("INBOX", nil, now, "seven"))
		h.commit(h.store().Expunge(1, []int{11}))
		return h
	}
	for key, want := range map[string][]int{
		"ALL":                     {1, 3, 4, 5},
		"1:*":                     {1, 3, 4, 5},
		"2":                       nil,
		"2:3":                     {3},
		"9,1:2":                   {1},
		"6":                       nil,
		"6:9":                     nil,
		"*":                       {5},
		"9:*":                     {5},
		"NOT 1":                   {3, 4, 5},
		"UID 10:13":               {1, 3},
		"UID *":                   {5},
		"UID 99:*":                {5},
		"UID 11":                  nil,
		"UID 16":                  nil,
		"SEEN":                    nil,
		"UNSEEN":                  {1, 3, 4, 5},
		"SUBJECT c":               {1},
		"SUBJECT B":               {3},
		"NOT SUBJECT b 3:4":       {4},
		"OR SUBJECT c SUBJECT b":  {1, 3},
		"SMALLER 6":               {5},
		"CHARSET utf-8 SUBJECT c": {1},
		"CHARSET US-ascii 5":      {5},
	} {
		var nums, uids string
		for _, n := range want {
			nums += fmt.Sprintf(" %d", n)
			uids += fmt.Sprintf(" %d", []int{10, 11, 13, 14, 15}[n-1])
		}
		before().want(0, "a SEARCH "+key, "* SEARCH"+nums, "* 6 EXISTS", "* 4 RECENT", "a OK SEARCH done")
		before().want(0, "a UID SEARCH "+key, "* SEARCH"+uids, "* 2 EXPUNGE", "* 5 EXISTS", "* 4 RECENT", "a OK UID SEARCH done")
	}
	h := before()
	h.done(0, "n NOOP")
	h.want(0, "a UID SEARCH 2:3", "* SEARCH 13 14", "a OK UID SEARCH done")
	h.want(0, "a UID SEARCH UID 14:*", "* SEARCH 14 15 16", "a OK UID SEARCH done")
	h.want(0, "a SEARCH UID 14:*", "* SEARCH 3 4 5", "a OK SEARCH done")
}

// P17.9: a star by number is the last row, gone or not; by uid the last one that has not gone; none, if all have.
func TestSearchStar(t *testing.T) {
	h := library(t)
	h.commit(h.store().Expunge(1, []int{14}))
	h.want(0, "a SEARCH *", "* SEARCH", "a OK SEARCH done")
	h.want(0, "a SEARCH 4:*", "* SEARCH 4", "a OK SEARCH done")
	h.want(0, "a SEARCH UID *", "* SEARCH 4", "a OK SEARCH done")
	h.want(0, "a SEARCH UID 14:*", "* SEARCH 4", "a OK SEARCH done")
	h.commit(h.store().Expunge(1, []int{10, 11, 12, 13}))
	for _, key := range []string{"ALL", "*", "UID *", "NOT 1", "UID 1:*"} {
		h.want(0, "a SEARCH "+key, "* SEARCH", "a OK SEARCH done")
	}
	h.done(0, "n NOOP")
	for _, key := range []string{"ALL", "*", "1", "UID *", "NOT 1"} {
		h.want(0, "a SEARCH "+key, "* SEARCH", "a OK SEARCH done")
		h.want(0, "a SORT (DATE) utf-8 "+key, "* SORT", "a OK SORT done")
		h.want(0, "a UID THREAD REFERENCES utf-8 "+key, "* THREAD", "a OK UID THREAD done")
	}
}

// P17.9: recent is what the view has for it.
func TestSearchRecent(t *testing.T) {
	h := library(t)
	h.want(0, "a SEARCH RECENT", "* SEARCH 4 5", "a OK SEARCH done")
	h.want(0, "a SEARCH NEW", "* SEARCH 4 5", "a OK SEARCH done")
	h.want(0, "a SEARCH OLD", "* SEARCH 1 2 3", "a OK SEARCH done")
	h.done(1, "s SELECT inbox")
	h.want(1, "a SEARCH RECENT", "* SEARCH 4 5", "a OK SEARCH done")
	h.want(0, "a SEARCH RECENT", "* SEARCH 4 5", "a OK SEARCH done")
	h.done(0, "s SELECT inbox")
	h.want(0, "a SEARCH RECENT", "* SEARCH", "a OK SEARCH done")
}

// P17.9: charsets in any case; unknown ones.
func TestCharsets(t *testing.T) {
	h := library(t)
	for _, charset := range []string{"utf-8", "UTF-8", "Utf-8", "us-ascii", "US-ASCII", `"utf-8"`} {
		h.want(0, "a SEARCH CHARSET "+charset+" 1", "* SEARCH 1", "a OK SEARCH done")
		h.want(0, "a SORT (SIZE) "+charset+" 1:2", "* SORT 2 1", "a OK SORT done")
		h.want(0, "a THREAD ORDEREDSUBJECT "+charset+" 1", "* THREAD (1)", "a OK THREAD done")
	}
	for _, charset := range []string{"utf8", "ascii", "iso-8859-1", `""`, `" utf-8"`, "US-ASCII2", literal("\xff")} {
		for _, line := range []string{"SEARCH CHARSET " + charset + " 1", "UID SEARCH CHARSET " + charset + " 1", "SEARCH RETURN () CHARSET " + charset + " 1", "SORT (SIZE) " + charset + " 1", "THREAD REFERENCES " + charset + " 1"} {
			h.want(0, "a "+line, "a "+unknown)
		}
	}
}

// P17.9: RETURN with every set of MIN, MAX, COUNT, ALL, by number and by uid, where something is found and where nothing is.
func TestReturn(t *testing.T) {
	names := []string{"MIN", "MAX", "COUNT", "ALL"}
	for chosen := range 16 {
		var returns []string
		for i, name := range names {
			if chosen>>i&1 == 1 {
				returns = append(returns, name)
			}
		}
		has := func(name string) bool { return slices.Contains(returns, name) }
		line := func(uid, least, most, count, all string) string {
			out := `* ESEARCH (TAG "a")` + uid
			if has("MIN") && least != "" {
				out += " MIN " + least
			}
			if has("MAX") && most != "" {
				out += " MAX " + most
			}
			if has("COUNT") {
				out += " COUNT " + count
			}
			if (has("ALL") || len(returns) == 0) && all != "" {
				out += " ALL " + all
			}
			return out
		}
		h := library(t)
		h.commit(h.store().Expunge(1, []int{11}))
		for range 2 {
			asked := "RETURN (" + strings.Join(returns, " ") + ")"
			h.want(0, "a SEARCH "+asked+" 1:4", line("", "1", "4", "3", "1,3:4"), "a OK SEARCH done")
			h.want(0, "a SEARCH "+asked+" 3", line("", "3", "3", "1", "3"), "a OK SEARCH done")
			h.want(0, "a SEARCH "+asked+" 2", line("", "", "", "0", ""), "a OK SEARCH done")
			slices.Reverse(returns) // what is asked for in another order is told in the same
		}
		asked := "RETURN (" + strings.Join(returns, " ") + ")"
		h.want(0, "a UID SEARCH "+asked+" 99", line(" UID", "", "", "0", ""), "* 2 EXPUNGE", "a OK UID SEARCH done")
		h.want(0, "a UID SEARCH "+asked+" 1:3", line(" UID", "10", "13", "3", "10,12:13"), "a OK UID SEARCH done")
	}
}

// P17.9: the greatest modseq of those found, with a KeyModseq anywhere in the key, deep too; else none.
func TestSearchModseq(t *testing.T) {
	h := library(t) // modseqs 2 to 6
	for _, c := range [][3]string{
		{"MODSEQ 3", "2 3 4 5", "6"}, {"1:4 MODSEQ 3", "2 3 4", "5"}, {"NOT MODSEQ 4", "1 2", "3"}, {"OR 1 (SEEN NOT NOT MODSEQ 3)", "1 2", "3"},
		{"MODSEQ 0", "1 2 3 4 5", "6"}, {"1 OR ALL OR SEEN (SEEN (SEEN MODSEQ 999))", "1", "2"}, {"MODSEQ 7", "", ""}, {"ALL", "1 2 3 4 5", ""},
	} {
		nums, modseq, set := "", "", ""
		if c[1] != "" {
			nums = " " + c[1]
		}
		if c[2] != "" {
			modseq, set = " (MODSEQ "+c[2]+")", " MODSEQ "+c[2]
		}
		h.want(0, "a SEARCH "+c[0], "* SEARCH"+nums+modseq, "a OK SEARCH done")
		h.want(0, "a SORT (ARRIVAL) utf-8 "+c[0], "* SORT"+nums+modseq, "a OK SORT done")
		h.want(0, "a SEARCH RETURN (COUNT) "+c[0], fmt.Sprintf(`* ESEARCH (TAG "a") COUNT %d`, len(strings.Fields(nums)))+set, "a OK SEARCH done")
		got := h.say(0, "a THREAD REFERENCES utf-8 "+c[0])
		if strings.Contains(got[0], "MODSEQ") {
			t.Errorf("P17.9: %q", got)
		}
	}
	h.want(0, "a UID SORT (REVERSE ARRIVAL) utf-8 MODSEQ 5", "* SORT 13 14 (MODSEQ 6)", "a OK UID SORT done")
	h.want(0, "a UID SEARCH RETURN () MODSEQ 5", `* ESEARCH (TAG "a") UID ALL 13:14 MODSEQ 6`, "a OK UID SEARCH done")
}

// P17.9: SORT and THREAD, by number and by uid.
func TestSortAndThread(t *testing.T) {
	h := library(t)
	for _, c := range [][2]string{
		{"SORT (SUBJECT) utf-8 ALL", "SORT 3 5 4 1 2"}, {"UID SORT (SUBJECT) utf-8 ALL", "SORT 12 14 13 10 11"},
		{"SORT (REVERSE SUBJECT SIZE) utf-8 ALL", "SORT 2 1 4 5 3"}, {"SORT (REVERSE FROM) utf-8 1:3", "SORT 1 3 2"}, {"UID SORT (SIZE) utf-8 4:*", "SORT 13 14"},
		{"THREAD REFERENCES utf-8 ALL", "THREAD (1 2)((3)(5))(4)"}, {"UID THREAD REFERENCES utf-8 ALL", "THREAD (10 11)((12)(14))(13)"},
		{"THREAD ORDEREDSUBJECT utf-8 ALL", "THREAD (1 2)(3 5)(4)"}, {"UID THREAD ORDEREDSUBJECT utf-8 2:*", "THREAD (11)(12 14)(13)"}, {"THREAD REFERENCES utf-8 2", "THREAD (2)"},
	} {
		name := strings.Fields(c[0])[0]
		if name == "UID" {
			name += " " + strings.Fields(c[0])[1]
		}
		h.want(0, "a "+c[0], "* "+c[1], "a OK "+name+" done")
	}
	h.commit(h.store().Expunge(1, []int{10}))
	h.want(0, "a SORT (SUBJECT) utf-8 ALL", "* SORT 3 5 4 2", "a OK SORT done")
	h.want(0, "a THREAD REFERENCES utf-8 ALL", "* THREAD (2)((3)(5))(4)", "a OK THREAD done")
}

// P0.6: a thread of as many messages as a mailbox has, one below the other.
func TestDeepThread(t *testing.T) {
	h := entered(t, 1, someRules())
	want := "* THREAD ("
	for i := range api.MaxMails {
		h.add(0, "inbox", "", fmt.Sprintf("Message-Id: <%d@x>\r\nReferences: <%d@x>\r\n\r\n", i+1, i))
		want += strings.TrimPrefix(fmt.Sprintf(" %d", i+1), map[bool]string{true: " "}[i == 0])
	}
	h.done(0, "s SELECT inbox")
	h.want(0, "a UID THREAD REFERENCES utf-8 ALL", want+")", "a OK UID THREAD done")
}
