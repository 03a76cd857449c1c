package nego

import (
	"slices"
	"strings"

	"polyglot/tag"
)

// branch is the tags that begin with the same parts. Branches make a tree, as wishes, tags and a tag's parts may all be many: so no wish is held against each tag.
type branch struct {
	itself  []tag.Tag          // the one that has no more parts, if it is there
	fitting []tag.Tag          // all of them, in order
	next    map[string]*branch // those that have more, by the part that follows
}

// add puts a tag behind those that there are.
func (b *branch) add(t tag.Tag) {
	for _, part := range parts(t) {
		b = b.grown(part)
		b.fitting = append(b.fitting, t)
	}
	b.itself = append(b.itself, t)
}

// grown is the branch behind a part, a new one if there is none.
func (b *branch) grown(part string) *branch {
	if b.next == nil {
		b.next = map[string]*branch{}
	}
	if b.next[part] == nil {
		b.next[part] = &branch{}
	}
	return b.next[part]
}

// asked is the tags that are asked of a wish, in order; some may come twice.
func (b *branch) asked(wish tag.Tag) []tag.Tag {
	var out []tag.Tag
	wanted := parts(wish)
	path := b.path(wanted)
	if len(path) == len(wanted) {
		end := path[len(path)-1]
		out = append(out, end.itself...)
		out = append(out, end.fitting...)
	}
	for _, less := range slices.Backward(path) {
		out = append(out, less.itself...)
	}
	return out
}

// path is the branches behind the first part, the first two and so on, as far as there are such.
func (b *branch) path(parts []string) []*branch {
	var path []*branch
	for _, part := range parts {
		b = b.next[part]
		if b == nil {
			break
		}
		path = append(path, b)
	}
	return path
}

// parts is a tag's parts, of which there is one at least; none of them has a hyphen.
func parts(t tag.Tag) []string { return strings.Split(t.String(), "-") }
