package shell

import (
	"strings"

	"weft/api"
	"weft/conf"
	"weft/world"
)

const (
	noLine        = 0
	noteMark      = "#"
	actMark       = ">"
	maxTranscript = 1 << 22 // bytes
)

// entry is an act, and the number of the line that it stands in.
type entry struct {
	act  api.Act
	line int
}

// Play plays a script over a configuration, both text: the transcript; of an error the line's number too.
func Play(config, script string) (string, int, api.Errno) {
	if len(script) > api.MaxScript {
		return "", noLine, api.ErrLong
	}
	c, err := conf.Load(config)
	if err != api.OK {
		return "", noLine, err
	}
	entries, line, err := readScript(script)
	if err != api.OK {
		return "", line, err
	}
	return playAll(c, entries)
}

// readScript reads all acts of a script, up to the first line that may not be: its number and its error.
func readScript(script string) ([]entry, int, api.Errno) {
	var entries []entry
	for i, text := range strings.Split(script, newline) {
		if text == "" || strings.HasPrefix(text, noteMark) {
			continue
		}
		if len(entries) == api.MaxActs {
			return nil, i + 1, api.ErrLong
		}
		act, err := ParseAct(text)
		if err != api.OK {
			return nil, i + 1, err
		}
		entries = append(entries, entry{act, i + 1})
	}
	return entries, noLine, api.OK
}

// playAll plays acts on a new world and tells what they answer, up to the first whose text has no room.
func playAll(c api.Config, entries []entry) (string, int, api.Errno) {
	w, err := world.New(c)
	if err != api.OK {
		return "", noLine, err
	}
	var p page
	for _, e := range entries {
		line, _ := FormatAct(e.act)
		p.line(actMark, line)
		// Act by act, not all by world.Run: a thousand replies that tell all in flight would fill gigabytes.
		p.reply(w.Do(e.act))
		if p.text.Len() > maxTranscript {
			return "", e.line, api.ErrLong
		}
	}
	return p.text.String(), noLine, api.OK
}
