package pager

import (
	"strings"

	"memoir/api"
	"memoir/code"
)

// record is the bytes of a commit.
func record(changed map[int]content) string {
	var b strings.Builder
	b.WriteString(code.Uint(uint64(len(changed))))
	for _, page := range rising(changed) {
		c := changed[page]
		b.WriteString(code.Uint(uint64(page)))
		b.WriteString(code.Text(strings.TrimRight(string(c[:]), "\x00")))
	}
	return b.String()
}

// changes is what a record tells of so many pages, if it is a commit's. What is read is held against the bytes by writing it anew: so pages that do not rise, texts that no page holds, ends of bytes 0, and bytes behind are found.
func changes(s string, pages int) (map[int]content, bool) {
	changed := map[int]content{}
	r := code.New(s)
	for range r.Uint() {
		page, text := r.Uint(), r.Text()
		if r.Err() != api.OK || page >= uint64(pages) {
			return nil, false
		}
		changed[int(page)] = contentOf(text)
	}
	return changed, record(changed) == s
}
