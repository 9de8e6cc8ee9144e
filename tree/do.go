package tree

import (
	"bytes"
	"slices"
	"strings"

	"dolmen/api"
	"dolmen/fault"
	"dolmen/names"
)

// Do does an operation.
func (t *T) Do(o api.Op) (api.Reply, error) {
	if t == nil {
		return api.Reply{}, fault.New("tree", o.Path, api.ErrArg)
	}
	r, err := t.made().act(o)
	return r, fault.New("tree", o.Path, err)
}

// act does an operation; its errors are bare.
func (t *T) act(o api.Op) (api.Reply, error) {
	kind := api.KFile
	switch o.Kind {
	case api.OpMkdir:
		kind = api.KDir
		fallthrough
	case api.OpCreate:
		return t.create(o.Path, kind)
	case api.OpRmdir:
		kind = api.KDir
		fallthrough
	case api.OpUnlink:
		return api.Reply{}, t.remove(o.Path, kind)
	case api.OpRename:
		return api.Reply{}, t.rename(o.Path, o.To)
	case api.OpLink:
		return api.Reply{}, t.link(o.Path, o.To)
	case api.OpRead:
		fallthrough
	case api.OpWrite:
		fallthrough
	case api.OpTruncate:
		return t.onFile(o)
	case api.OpStat:
		return t.stat(o.Path)
	case api.OpReaddir:
		return t.readdir(o.Path)
	}
	return api.Reply{}, api.ErrArg
}

// create makes an empty inode of a kind.
func (t *T) create(path string, kind int) (api.Reply, error) {
	dir, name, err := t.free(path)
	if err != nil {
		return api.Reply{}, err
	}
	if len(t.nodes) >= api.MaxNodes || t.next >= maxNext {
		return api.Reply{}, api.ErrMany
	}
	ino := t.next
	t.next++
	t.nodes[ino] = node{kind: kind}
	t.name(dir, name, ino)
	return api.Reply{Ino: ino}, nil
}

// remove takes the name of an inode of a kind away.
func (t *T) remove(path string, kind int) error {
	if _, _, err := names.Parent(path); err != nil {
		return err
	}
	ino, err := t.Find(path)
	if err != nil {
		return err
	}
	if err := unlike(kind, t.nodes[ino]); err != nil {
		return err
	}
	t.unnamePath(path)
	return nil
}

// rename moves a name.
func (t *T) rename(path, to string) error {
	if _, _, err := names.Parent(path); err != nil {
		return err
	}
	if _, _, err := names.Parent(to); err != nil {
		return err
	}
	ino, err := t.Find(path)
	if err != nil {
		return err
	}
	kind := t.nodes[ino].kind
	if kind == api.KDir && to != path && names.Under(to, path) {
		return api.ErrLoop
	}
	dir, name, err := t.place(to)
	if err != nil {
		return err
	}
	if there, ok := t.nodes[dir].leads(name); ok {
		if there == ino {
			return nil
		}
		if err := unlike(kind, t.nodes[there]); err != nil {
			return err
		}
		t.unname(dir, name)
	}
	t.name(dir, name, ino) // ahead of losing the old name, as what has none left is gone
	t.unnamePath(path)
	return nil
}

// link gives a file one more name.
func (t *T) link(path, to string) error {
	if _, _, err := names.Parent(to); err != nil {
		return err
	}
	ino, err := t.file(path)
	if err != nil {
		return err
	}
	dir, name, err := t.free(to)
	if err != nil {
		return err
	}
	if t.Links(ino) >= api.MaxLinks {
		return api.ErrMany
	}
	t.name(dir, name, ino)
	return nil
}

// onFile reads or changes the bytes of a file.
func (t *T) onFile(o api.Op) (api.Reply, error) {
	ino, err := t.file(o.Path)
	if err != nil {
		return api.Reply{}, err
	}
	data := t.nodes[ino].data
	switch {
	case o.Kind == api.OpRead && (o.Off < 0 || o.N < 0):
		fallthrough
	case o.Kind == api.OpWrite && (o.Off < 0 || o.Off > api.MaxFile-len(o.Data)):
		fallthrough
	case o.Kind == api.OpTruncate && (o.N < 0 || o.N > api.MaxFile):
		return api.Reply{}, api.ErrRange
	case o.Kind == api.OpRead:
		return api.Reply{Data: part(data, o.Off, o.N)}, nil
	case o.Kind == api.OpWrite:
		t.nodes[ino] = node{kind: api.KFile, data: written(data, o.Off, o.Data)}
		return api.Reply{N: len(o.Data)}, nil
	}
	t.nodes[ino] = node{kind: api.KFile, data: sized(data, o.N)}
	return api.Reply{}, nil
}

// stat is what an inode is.
func (t *T) stat(path string) (api.Reply, error) {
	ino, err := t.Find(path)
	if err != nil {
		return api.Reply{}, err
	}
	n := t.nodes[ino]
	return api.Reply{Ino: ino, Kind: n.kind, Size: len(n.data) + len(n.slots), Links: t.Links(ino)}, nil
}

// readdir is the names of a directory.
func (t *T) readdir(path string) (api.Reply, error) {
	ino, err := t.Find(path)
	if err != nil {
		return api.Reply{}, err
	}
	n := t.nodes[ino]
	if n.kind == api.KFile {
		return api.Reply{}, api.ErrFile
	}
	return api.Reply{Names: n.names()}, nil
}

// file is the file that a path leads to.
func (t *T) file(path string) (int, error) {
	ino, err := t.Find(path)
	if err != nil {
		return 0, err
	}
	if t.nodes[ino].kind == api.KDir {
		return 0, api.ErrDir
	}
	return ino, nil
}

// place is the directory in which a path's last name stands, or would stand.
func (t *T) place(path string) (dir int, name string, err error) {
	above, name, err := names.Parent(path)
	if err != nil {
		return 0, "", err
	}
	dir, err = t.Find(above)
	if err != nil {
		return 0, "", err
	}
	if t.nodes[dir].kind == api.KFile {
		return 0, "", api.ErrFile
	}
	return dir, name, nil
}

// free is the place of a path at which nothing stands.
func (t *T) free(path string) (dir int, name string, err error) {
	dir, name, err = t.place(path)
	if err != nil {
		return 0, "", err
	}
	if _, there := t.nodes[dir].leads(name); there {
		return 0, "", api.ErrThere
	}
	return dir, name, nil
}

// name gives an inode a name that does not stand there yet.
func (t *T) name(dir int, name string, ino int) {
	n := t.nodes[dir]
	i, _ := n.search(name)
	n.slots = slices.Concat(n.slots[:i], []slot{{strings.Clone(name), ino}}, n.slots[i:]) // a clone, as the path is not kept
	t.nodes[dir] = n
}

// unname takes a name that stands there away, and with the last one its inode.
func (t *T) unname(dir int, name string) {
	n := t.nodes[dir]
	i, _ := n.search(name)
	ino := n.slots[i].ino
	n.slots = slices.Concat(n.slots[:i], n.slots[i+1:])
	t.nodes[dir] = n
	if t.Links(ino) == 0 {
		delete(t.nodes, ino)
	}
}

// unnamePath takes the name away that a path which was found ends with.
func (t *T) unnamePath(path string) {
	if dir, name, err := t.place(path); err == nil {
		t.unname(dir, name)
	}
}

// unlike is why an inode may not go away for one of a kind, or as one of it.
func unlike(kind int, n node) error {
	switch {
	case kind == api.KDir && n.kind == api.KFile:
		return api.ErrFile
	case kind == api.KFile && n.kind == api.KDir:
		return api.ErrDir
	case len(n.slots) > 0:
		return api.ErrMore
	}
	return nil
}

// part is at most n bytes from off on.
func part(data []byte, off, n int) []byte {
	rest := data[min(off, len(data)):]
	return bytes.Clone(rest[:min(n, len(rest))])
}

// written is data with more from off on.
func written(data []byte, off int, more []byte) []byte {
	if len(more) == 0 {
		return data
	}
	out := sized(data, max(len(data), off+len(more)))
	copy(out[off:], more)
	return out
}

// sized is the first n bytes of data, with noughts behind its end.
func sized(data []byte, n int) []byte {
	out := make([]byte, n)
	copy(out, data)
	return out
}
