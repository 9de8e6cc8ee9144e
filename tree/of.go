package tree

import (
	"bytes"
	"strings"

	"dolmen/api"
	"dolmen/names"
)

// Of is one of plain data.
func Of(x api.Tree) (*T, error) {
	if !mayBe(x) {
		return nil, api.ErrArg
	}
	t := &T{nodes: make(map[int]node, len(x.Nodes)), next: x.Next}
	for _, n := range x.Nodes {
		t.nodes[n.Ino] = taken(n)
	}
	if !t.hangs() {
		return nil, api.ErrArg
	}
	return t, nil
}

// mayBe tells whether a tree's parts may be, each by itself.
func mayBe(x api.Tree) bool {
	switch {
	case x.Next <= root || x.Next > maxNext:
		return false
	case len(x.Nodes) == 0 || len(x.Nodes) > api.MaxNodes:
		return false
	case x.Nodes[0].Ino != root || x.Nodes[0].Kind != api.KDir:
		return false
	}
	last := 0
	for _, n := range x.Nodes {
		if n.Ino <= last || n.Ino >= x.Next || !nodeMayBe(n) {
			return false
		}
		last = n.Ino
	}
	return true
}

// nodeMayBe tells whether an inode may be, by what its kind has.
func nodeMayBe(n api.Node) bool {
	switch n.Kind {
	case api.KFile:
		return len(n.Data) <= api.MaxFile
	case api.KDir:
		return len(n.Names) == len(n.Inos) && namesMayBe(n.Names)
	}
	return false
}

// namesMayBe tells whether a directory may have these names in this order.
func namesMayBe(l []string) bool {
	for i, name := range l {
		if !isName(name) || i > 0 && !names.Less(l[i-1], name) {
			return false
		}
	}
	return true
}

// isName tells whether a text is one name that may be.
func isName(s string) bool {
	l, err := names.Split(names.Join(s))
	return err == nil && len(l) == 1
}

// taken is an inode of plain data, without what its kind has not.
func taken(x api.Node) node {
	n := node{kind: x.Kind}
	if x.Kind == api.KFile {
		n.data = bytes.Clone(x.Data)
		return n
	}
	for i, name := range x.Names {
		n.slots = append(n.slots, slot{strings.Clone(name), x.Inos[i]})
	}
	return n
}

// hangs tells whether all inodes hang together: each is come to from the root, a directory once, a file not too often.
func (t *T) hangs() bool {
	links := map[int]int{root: 1}
	return t.reach(root, links) && len(links) == len(t.nodes)
}

// reach counts the names under a directory by what they lead to, as long as they lead to what may be. None is gone through twice, so that a ring ends.
func (t *T) reach(dir int, links map[int]int) bool {
	for _, s := range t.nodes[dir].slots {
		n, there := t.nodes[s.ino]
		links[s.ino]++
		switch {
		case !there || links[s.ino] > most(n.kind):
			return false
		case n.kind == api.KDir && !t.reach(s.ino, links):
			return false
		}
	}
	return true
}

// most is how many names an inode of a kind may have.
func most(kind int) int {
	if kind == api.KDir {
		return 1
	}
	return api.MaxLinks
}
