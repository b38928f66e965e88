package dns

import (
	"bytes"
	"slices"

	"weft/api"
)

const maxChain = 8 // CNAMEs that are followed

// Answer is the answer to a message, out of the records of a zone.
func Answer(m api.Message, zone []api.Record) (api.Message, api.Errno) {
	if m.Reply {
		return api.Message{}, api.ErrDNS
	}
	reply := api.Message{ID: m.ID, Reply: true, Opcode: m.Opcode, RD: m.RD, Questions: slices.Clone(m.Questions)}
	switch {
	case m.Opcode != 0:
		reply.Code = api.CodeNot
	case len(m.Questions) != 1 || !isName(m.Questions[0].Name):
		reply.Code = api.CodeForm
	case m.Questions[0].Class != api.ClassIN:
		reply.Code = api.CodeRefus
	default:
		reply.AA = true
		reply.Answers, reply.Code = ask(zone, m.Questions[0])
	}
	return reply, api.OK
}

// ask is what a zone answers to a question, and with which code.
func ask(zone []api.Record, q api.Question) ([]api.Record, int) {
	var answers []api.Record
	name := q.Name
	for {
		found := under(zone, name)
		wanted := ofType(found, q.Type)
		aliases := ofType(found, api.TypeCNAME)
		switch {
		case len(wanted) > 0:
			return appendCopies(answers, wanted), api.CodeOK
		case len(found) == 0:
			return answers, api.CodeName
		case len(aliases) == 0 || len(answers) == maxChain:
			return answers, api.CodeOK
		}
		answers = appendCopies(answers, aliases[:1])
		name = string(aliases[0].Data)
	}
}

// under is the records of a zone that count and have that name.
func under(zone []api.Record, name string) []api.Record {
	var found []api.Record
	for _, c := range zone {
		if counts(c) && Equal(c.Name, name) {
			found = append(found, c)
		}
	}
	return found
}

// counts tells whether a record of a zone is looked at.
func counts(c api.Record) bool {
	return c.Class == api.ClassIN && !hasNoName(c) && !hasNoAddress(c)
}

func ofType(list []api.Record, typ uint16) []api.Record {
	var some []api.Record
	for _, c := range list {
		if c.Type == typ {
			some = append(some, c)
		}
	}
	return some
}

func appendCopies(list, more []api.Record) []api.Record {
	for _, c := range more {
		c.Data = bytes.Clone(c.Data)
		list = append(list, c)
	}
	return list
}
