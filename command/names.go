package command

import (
	"postbag/api"
	"postbag/octet"
)

// Names stand at their numbers in package api; where a number has none stands an empty one, which no word is.

const (
	uid       = "UID"
	returning = "RETURN"
	charset   = "CHARSET"
	condstore = "CONDSTORE"
	changed   = "CHANGEDSINCE"
	unchanged = "UNCHANGEDSINCE"
	flags     = "FLAGS"
	silent    = ".SILENT"
	reverse   = "REVERSE"
	body      = "BODY"
	peek      = ".PEEK"
)

func verbNames() []string {
	return []string{
		api.VerbCapability: "CAPABILITY", api.VerbNoop: "NOOP", api.VerbLogout: "LOGOUT", api.VerbLogin: "LOGIN",
		api.VerbSelect: "SELECT", api.VerbExamine: "EXAMINE", api.VerbCreate: "CREATE", api.VerbDelete: "DELETE",
		api.VerbRename: "RENAME", api.VerbSubscribe: "SUBSCRIBE", api.VerbUnsubscribe: "UNSUBSCRIBE",
		api.VerbList: "LIST", api.VerbLsub: "LSUB", api.VerbStatus: "STATUS", api.VerbAppend: "APPEND",
		api.VerbCheck: "CHECK", api.VerbClose: "CLOSE", api.VerbUnselect: "UNSELECT", api.VerbExpunge: "EXPUNGE",
		api.VerbSearch: "SEARCH", api.VerbFetch: "FETCH", api.VerbStore: "STORE", api.VerbCopy: "COPY",
		api.VerbMove: "MOVE", api.VerbSort: "SORT", api.VerbThread: "THREAD", api.VerbIdle: "IDLE",
		api.VerbNamespace: "NAMESPACE", api.VerbEnable: "ENABLE",
	}
}

func statusNames() []string {
	return []string{
		api.StatusMessages: "MESSAGES", api.StatusRecent: "RECENT", api.StatusNext: "UIDNEXT",
		api.StatusValidity: "UIDVALIDITY", api.StatusUnseen: "UNSEEN", api.StatusModseq: "HIGHESTMODSEQ",
	}
}

func returnNames() []string {
	return []string{api.ReturnMin: "MIN", api.ReturnMax: "MAX", api.ReturnAll: "ALL", api.ReturnCount: "COUNT"}
}

func byNames() []string {
	return []string{
		api.ByArrival: "ARRIVAL", api.ByCc: "CC", api.ByDate: "DATE", api.ByFrom: "FROM", api.BySize: "SIZE",
		api.BySubject: "SUBJECT", api.ByTo: "TO",
	}
}

func algorithmNames() []string {
	return []string{api.ThreadSubject: "ORDEREDSUBJECT", api.ThreadReferences: "REFERENCES"}
}

func itemNames() []string {
	return []string{
		api.ItemFlags: flags, api.ItemUid: uid, api.ItemDate: "INTERNALDATE", api.ItemSize: "RFC822.SIZE",
		api.ItemEnvelope: "ENVELOPE", api.ItemBody: body, api.ItemStructure: "BODYSTRUCTURE",
		api.ItemHeader: "RFC822.HEADER", api.ItemText: "RFC822.TEXT", api.ItemWhole: "RFC822", api.ItemModseq: "MODSEQ",
	}
}

func sectionNames() []string {
	return []string{
		api.SectionHeader: "HEADER", api.SectionFields: "HEADER.FIELDS", api.SectionOthers: "HEADER.FIELDS.NOT",
		api.SectionText: "TEXT", api.SectionMime: "MIME",
	}
}

// numberOf gives up where there is no such name, nameOf where a number is none of theirs.
func numberOf(names []string, text string) int {
	for n, name := range names {
		if octet.Same(text, name) {
			return n
		}
	}
	giveUp()
	return 0
}

func nameOf(names []string, n int) string {
	if n < 0 || n >= len(names) {
		giveUp()
	}
	return names[n]
}
