package clean

import (
	"muslin/addr"
	"muslin/api"
	"muslin/attach"
	"muslin/fold"
	"muslin/lines"
	"muslin/pick"
	"muslin/settle"
	"muslin/stamp"
	"muslin/wash"
	"muslin/word"
)

const (
	subjectField = "Subject"
	fromField    = "From"
	toField      = "To"
	dateField    = "Date"
)

// Message is one that is shown.
type Message struct {
	Subject string
	From    []api.Box
	To      []api.Box
	Date    int
	Dated   bool
	Html    string
	Files   []api.Attached
	Blocked int
}

// tellHeader tells what a message's fields say.
func (m *Message) tellHeader(whole api.Part) {
	// A field that is not there is empty, and says nothing.
	ask := func(name string) string {
		value, _ := lines.Get(whole.Fields, name)
		return value
	}
	m.Subject = word.Decode(ask(subjectField))
	m.From = addr.Parse(ask(fromField))
	m.To = addr.Parse(ask(toField))
	date, err := stamp.Parse(ask(dateField))
	m.Date, m.Dated = date, err == api.OK
}

// tellFiles tells what comes with a message.
func (m *Message) tellFiles(whole api.Part) {
	m.Files = attach.Files(whole)
}

// tellBody tells what a message shows; its files are told ahead of that, for its pictures are among them.
func (m *Message) tellBody(whole api.Part, p api.Policy) {
	body, is := pick.Body(whole)
	if !is {
		m.Html = settle.Notice(noText)
		return
	}
	nodes := pick.Tree(body)
	m.Blocked = wash.Blocked(p, nodes)
	if p.Quotes {
		nodes = fold.Fold(nodes)
	}
	m.Html, _ = settle.Settle(p, m.Files, nodes)
}
