package thread

import "postbag/api"

// take copies the cards that threads are made of, in the order in which they are taken: by Seq, then by their place.
func take(cards []api.Card) []api.Card {
	uids := make(map[int]struct{}, len(cards))
	taken := make([]api.Card, 0, len(cards))
	for _, at := range Sort(cards) {
		uid := cards[at].Uid
		if _, had := uids[uid]; had || uid < 1 || uid > api.MaxNumber-1 {
			continue
		}
		uids[uid] = struct{}{}
		taken = append(taken, cards[at])
	}
	return taken
}

// byDate tells the places of cards that are taken, the earlier ones ahead.
func byDate(taken []api.Card) []int { return Sort(taken, api.By{Kind: api.ByDate}) }

// BySubject hangs cards together by their subjects.
func BySubject(cards []api.Card) []api.Twig {
	taken := take(cards)
	var threads []api.Twig
	places := make(map[string]int) // of the thread of a subject
	for _, at := range byDate(taken) {
		c := taken[at]
		place, had := places[c.Subject]
		if !had {
			places[c.Subject] = len(threads)
			threads = append(threads, api.Twig{Uid: c.Uid})
			continue
		}
		threads[place].Kids = append(threads[place].Kids, api.Twig{Uid: c.Uid})
	}
	return threads
}
