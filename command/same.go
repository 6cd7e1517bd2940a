package command

import (
	"slices"

	"postbag/api"
)

// isSame takes nil and empty lists for the same.
func isSame(a, b *api.Command) bool {
	return a.Tag == b.Tag && a.Verb == b.Verb && a.Uid == b.Uid &&
		a.Name == b.Name && a.To == b.To && a.User == b.User && a.Pass == b.Pass &&
		a.Ref == b.Ref && a.Pattern == b.Pattern && slices.Equal(a.Set, b.Set) &&
		slices.EqualFunc(a.Items, b.Items, isSameItem) &&
		a.Mode == b.Mode && a.Silent == b.Silent && slices.Equal(a.Flags, b.Flags) &&
		a.Unchanged == b.Unchanged && a.Changed == b.Changed && a.Condstore == b.Condstore &&
		isSameKey(a.Key, b.Key) && a.Charset == b.Charset && slices.Equal(a.By, b.By) &&
		a.Algorithm == b.Algorithm && slices.Equal(a.Returns, b.Returns) && a.Returning == b.Returning &&
		a.Dated == b.Dated && a.Date == b.Date && a.Body == b.Body &&
		slices.Equal(a.Status, b.Status) && slices.Equal(a.Names, b.Names)
}

func isSameItem(a, b api.Item) bool {
	return a.Kind == b.Kind && a.Peek == b.Peek && a.Partial == b.Partial && a.From == b.From && a.N == b.N &&
		a.Section.Place == b.Section.Place && a.Section.Kind == b.Section.Kind &&
		slices.Equal(a.Section.Names, b.Section.Names)
}

func isSameKey(a, b api.Key) bool {
	return a.Kind == b.Kind && a.Text == b.Text && a.Field == b.Field && slices.Equal(a.Set, b.Set) &&
		a.Day == b.Day && a.Num == b.Num && slices.EqualFunc(a.Kids, b.Kids, isSameKey)
}
