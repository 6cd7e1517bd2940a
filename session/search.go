package session

import (
	"slices"

	"postbag/api"
	"postbag/octet"
	"postbag/search"
	"postbag/span"
	"postbag/thread"
)

func charsets() []string { return []string{"US-ASCII", "UTF-8"} }

// found are the messages of the view for which the command's key holds, by rising numbers.
func (j *job) found() ([]api.Mail, error) {
	charset := j.asked.Charset
	isKnown := func(name string) bool { return octet.Same(name, charset.S) }
	if charset.Is && !slices.ContainsFunc(charsets(), isKnown) {
		return nil, refuse(api.CodeCharset, list(atoms(charsets()...)...))
	}
	last := j.last()
	return j.shown(func(m api.Mail) bool { return search.Holds(j.asked.Key, m, last) }), nil
}

// last is what a star stands for: a row may have gone and still have its number, but not its uid.
func (j *job) last() api.Last {
	last := api.Last{Seq: len(j.view.Uids())}
	j.shown(func(m api.Mail) bool {
		last.Uid = m.Uid
		return false
	})
	return last
}

// modseqOf is the greatest modseq of what was found, 0 if the key does not ask for one.
func (j *job) modseqOf(found []api.Mail) int {
	greatest := 0
	if hasModseq(j.asked.Key) {
		for _, m := range found {
			greatest = max(greatest, m.Modseq)
		}
	}
	return greatest
}

func (j *job) search() error {
	found, err := j.found()
	if err != nil {
		return err
	}
	told := api.Answer{Kind: api.AnswerSearch, Nums: j.numbers(found)}
	if j.asked.Returning {
		told = j.summed(j.numbers(found))
	}
	told.Modseq = j.modseqOf(found)
	j.tell(told)
	return nil
}

// summed is what SEARCH RETURN tells of rising numbers.
func (j *job) summed(nums []int) api.Answer {
	told := api.Answer{Kind: api.AnswerEsearch, Tag: j.asked.Tag, Uid: j.asked.Uid}
	returns := func(what int) bool { return slices.Contains(j.asked.Returns, what) }
	if returns(api.ReturnMin) && len(nums) > 0 {
		told.Pairs = append(told.Pairs, atom("MIN"), number(nums[0]))
	}
	if returns(api.ReturnMax) && len(nums) > 0 {
		told.Pairs = append(told.Pairs, atom("MAX"), number(nums[len(nums)-1]))
	}
	if returns(api.ReturnCount) {
		told.Pairs = append(told.Pairs, atom("COUNT"), number(len(nums)))
	}
	if returns(api.ReturnAll) || len(j.asked.Returns) == 0 {
		told.Set = span.Least(nums)
	}
	return told
}

// cards are those of messages, by what the command calls them.
func (j *job) cards(mails []api.Mail) []api.Card {
	var out []api.Card
	for _, m := range mails {
		card := thread.Card(m)
		card.Uid = j.number(m)
		out = append(out, card)
	}
	return out
}

func (j *job) sort() error {
	found, err := j.found()
	if err != nil {
		return err
	}
	cards := j.cards(found)
	told := api.Answer{Kind: api.AnswerSort, Modseq: j.modseqOf(found)}
	for _, place := range thread.Sort(cards, j.asked.By...) {
		told.Nums = append(told.Nums, cards[place].Uid)
	}
	j.tell(told)
	return nil
}

func (j *job) thread() error {
	found, err := j.found()
	if err != nil {
		return err
	}
	twigs := thread.ByReferences
	if j.asked.Algorithm == api.ThreadSubject {
		twigs = thread.BySubject
	}
	j.tell(api.Answer{Kind: api.AnswerThread, Twigs: twigs(j.cards(found))})
	return nil
}
