package shell

import (
	"strings"

	"weft/addr"
	"weft/api"
)

// page is a text that grows line by line.
type page struct {
	text strings.Builder
}

// line puts words behind the text, as a line of their own.
func (p *page) line(words ...string) {
	p.text.WriteString(strings.Join(words, blank))
	p.text.WriteString(newline)
}

func (p *page) reply(r api.Reply) {
	p.line("err", number(r.Err), "n", number(r.N), "verdict", number(r.Verdict), "why", number(r.Why), "req", number(r.Req))
	for _, g := range r.Given {
		p.line("given", number(g.Host), addr.Format(g.To), writeName(g.Name), writeBytes(g.Bytes))
	}
	p.leases("lease", r.Leases)
	p.tables("", r.Tables)
	for _, pod := range r.Pods {
		p.line("pod", writeName(pod.Name), addr.Format(pod.Addr))
	}
	for _, s := range r.Flight {
		p.line("sent", addr.Format(s.To), writeBytes(s.Bytes))
	}
	if !isBlank(r.View) {
		p.view(r.View)
	}
	if len(r.Counts) > 0 {
		p.counts(r.Counts)
	}
	if len(r.Disk.A) > 0 || len(r.Disk.B) > 0 {
		p.line("disk", writeBytes(r.Disk.A), writeBytes(r.Disk.B))
	}
}

func (p *page) leases(word string, list []api.Lease) {
	for _, l := range list {
		p.line(word, leaseWords(l))
	}
}

// tables tells tables, with mark ahead of each line.
func (p *page) tables(mark string, t api.Tables) {
	for _, r := range t.Routes {
		p.line(mark+"route", prefixWord(r.Dst), addr.Format(r.Via), wayWord(r.Local))
	}
	for _, n := range t.Neighs {
		p.line(mark+"neigh", addr.Format(n.IP), addr.FormatMAC(n.MAC))
	}
	for _, f := range t.Fdbs {
		p.line(mark+"fdb", addr.FormatMAC(f.MAC), addr.Format(f.To))
	}
}

func (p *page) view(v api.View) {
	p.line("view", bit(v.Has), number(v.Cursor), bit(v.Synced), bit(v.Degraded))
	p.line("own", leaseWords(v.Lease))
	p.leases("knows", v.Leases)
	for _, s := range v.Skipped {
		p.line("skipped", prefixWord(s))
	}
	p.tables("has-", v.Have)
}

func (p *page) counts(list []int) {
	words := []string{"counts"}
	for _, n := range list {
		words = append(words, number(n))
	}
	p.line(words...)
}

// isBlank tells whether there is nothing in a view to tell of.
func isBlank(v api.View) bool {
	return !v.Has && v.Lease == api.Lease{} && v.Cursor == 0 && !v.Synced && !v.Degraded &&
		len(v.Leases) == 0 && len(v.Skipped) == 0 && isEmpty(v.Have)
}

func isEmpty(t api.Tables) bool {
	return len(t.Routes) == 0 && len(t.Neighs) == 0 && len(t.Fdbs) == 0
}

func leaseWords(l api.Lease) string {
	words := []string{number(l.Host), prefixWord(l.Subnet), addr.Format(l.Pub), addr.FormatMAC(l.MAC), number(l.Until), number(l.Rev)}
	return strings.Join(words, blank)
}

// prefixWord writes a prefix that need not be valid; addr.FormatPrefix would refuse such a one.
func prefixWord(p api.Prefix) string {
	return addr.Format(p.Addr) + "/" + number(p.Len)
}

func wayWord(local bool) string {
	if local {
		return "local"
	}
	return "remote"
}

func bit(b bool) string {
	if b {
		return "1"
	}
	return "0"
}
