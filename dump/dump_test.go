package dump

import (
	"bytes"
	"errors"
	"fmt"
	"math"
	"reflect"
	"slices"
	"strings"
	"testing"
	"unsafe"

	"dolmen/api"
	"dolmen/tree"
)

// dice gives numbers by a rule, the same ones each time.
type dice uint64

func (d *dice) below(n int) int {
	*d = *d*6364136223846793005 + 1442695040888963407
	return int(*d >> 33 % dice(n))
}

func dir(ino int, l ...any) api.Node {
	n := api.Node{Ino: ino, Kind: api.KDir}
	for i := 0; i < len(l); i += 2 {
		n.Names = append(n.Names, l[i].(string))
		n.Inos = append(n.Inos, l[i+1].(int))
	}
	return n
}

func file(ino int, data string) api.Node {
	return api.Node{Ino: ino, Kind: api.KFile, Data: []byte(data)}
}

func of(next int, l ...api.Node) api.Tree { return api.Tree{Next: next, Nodes: l} }

// some is a tree with its text: a file with two names, one of no bytes, directories within each other, numbers left out.
func some() (api.Tree, string) {
	x := of(12,
		dir(1, "A", 3, "a", 2, "a.b", 5, "ab", 9),
		dir(2, "-", 4, "_", 5),
		file(3, ""),
		dir(4),
		file(5, "hey\x00\xff"),
		dir(9, "last", 10),
		file(10, "\n"))
	return x, `next 12
dir 1
name A 3
name a 2
name a.b 5
name ab 9
dir 2
name - 4
name _ 5
file 3 -
dir 4
file 5 68657900ff
dir 9
name last 10
file 10 0a
`
}

// refused holds that a text is no tree's.
func refused(t *testing.T, what, s string) {
	t.Helper()
	x, err := Parse(s)
	if err != error(api.ErrBad) || x.Next != 0 || len(x.Nodes) != 0 {
		t.Errorf("%s: Parse(%q): %v, %v", what, short(s), x, err)
	}
}

func short(s string) string { return s[:min(len(s), 300)] }

// reads holds that a text is read as a tree, and the tree written as the text.
func reads(t *testing.T, x api.Tree, s string) {
	t.Helper()
	if got := Text(x); got != s {
		t.Errorf("P7.1: Text:\n got %q\nwant %q", short(got), short(s))
	}
	y, err := Parse(s)
	if err != nil || !tree.Same(y, x) {
		t.Errorf("P7.2: Parse(%q):\n got %v, %v\nwant %v", short(s), y, err, x)
	}
}

// written is a tree's text by another hand.
func written(x api.Tree) string {
	s := fmt.Sprintf("next %d\n", x.Next)
	for _, n := range x.Nodes {
		switch {
		case n.Kind == api.KDir:
			s += fmt.Sprintf("dir %d\n", n.Ino)
			for i := range n.Names {
				s += fmt.Sprintf("name %s %d\n", n.Names[i], n.Inos[i])
			}
		case len(n.Data) == 0:
			s += fmt.Sprintf("file %d -\n", n.Ino)
		default:
			s += fmt.Sprintf("file %d %x\n", n.Ino, n.Data)
		}
	}
	return s
}

func TestTextAndParse(t *testing.T) {
	reads(t, tree.New().All(), "next 2\ndir 1\n")
	reads(t, of(7, dir(1)), "next 7\ndir 1\n")
	reads(t, of(1<<40, dir(1, "x", 1<<40-1), file(1<<40-1, "")), "next 1099511627776\ndir 1\nname x 1099511627775\nfile 1099511627775 -\n")
	reads(t, of(3, dir(1, "next", 2), dir(2)), "next 3\ndir 1\nname next 2\ndir 2\n")
	x, s := some()
	reads(t, x, s)
}

// What a kind has not is not asked, neither by Of nor by Same.
func TestTextOfWhatAKindHasNot(t *testing.T) {
	x := of(3, dir(1, "a", 2), file(2, "b"))
	x.Nodes[0].Data = []byte("gone")
	x.Nodes[1].Names = []string{"..", "z", ""}
	x.Nodes[1].Inos = []int{77}
	reads(t, x, "next 3\ndir 1\nname a 2\nfile 2 62\n")
}

func TestTextOfWhatIsNoTree(t *testing.T) {
	many := of(100, dir(1))
	for i := range api.MaxNodes {
		many.Nodes[0].Names = append(many.Nodes[0].Names, fmt.Sprint(i+100))
		many.Nodes[0].Inos = append(many.Nodes[0].Inos, i+2)
		many.Nodes = append(many.Nodes, file(i+2, ""))
	}
	for what, x := range map[string]api.Tree{
		"nothing":                  {},
		"no inode":                 of(2),
		"next 1":                   of(1, dir(1)),
		"next below 0":             of(-2, dir(1)),
		"next too great":           of(1<<40+1, dir(1)),
		"greatest next":            of(math.MaxInt, dir(1)),
		"an inode from next on":    of(2, dir(1, "a", 2), file(2, "")),
		"a root that is a file":    of(2, file(1, "")),
		"no root":                  of(3, dir(2)),
		"falling numbers":          of(4, dir(1, "a", 2, "b", 3), file(3, ""), file(2, "")),
		"one twice":                of(4, dir(1, "a", 2), file(2, ""), file(2, "")),
		"falling names":            of(4, dir(1, "b", 2, "a", 3), file(2, ""), file(3, "")),
		"a name twice":             of(4, dir(1, "a", 2, "a", 3), file(2, ""), file(3, "")),
		"a name that is none":      of(3, dir(1, "..", 2), file(2, "")),
		"a name with a blank":      of(3, dir(1, "a b", 2), file(2, "")),
		"a name with a line's end": of(3, dir(1, "a\nb", 2), file(2, "")),
		"a name of no bytes":       of(3, dir(1, "", 2), file(2, "")),
		"a name too long":          of(3, dir(1, "abcdefghijklm", 2), file(2, "")),
		"a name of nothing":        of(3, dir(1, "a", 2)),
		"a file without a name":    of(3, dir(1), file(2, "")),
		"a directory with two":     of(3, dir(1, "a", 2, "b", 2), dir(2)),
		"a ring":                   of(4, dir(1), dir(2, "a", 3), dir(3, "a", 2)),
		"a file too long":          of(3, dir(1, "a", 2), file(2, strings.Repeat("x", api.MaxFile+1))),
		"too many inodes":          many,
	} {
		untold(t, what, x)
		refused(t, "P7.2: "+what, written(x))
	}
	untold(t, "no kind", of(3, dir(1, "a", 2), api.Node{Ino: 2}))
	untold(t, "a kind that is none", of(3, dir(1, "a", 2), api.Node{Ino: 2, Kind: 3}))
	untold(t, "names without inodes", of(2, api.Node{Ino: 1, Kind: api.KDir, Names: []string{"a"}}))
	untold(t, "inodes without names", of(3, api.Node{Ino: 1, Kind: api.KDir, Inos: []int{2}}, file(2, "")))
}

// untold holds that what is no tree has no text.
func untold(t *testing.T, what string, x api.Tree) {
	t.Helper()
	if _, err := tree.Of(x); err == nil {
		t.Errorf("%s: Of takes it", what)
	}
	if s := Text(x); s != "" {
		t.Errorf("P7.1: %s: Text %q", what, short(s))
	}
}

func TestHex(t *testing.T) {
	if Hex(nil) != "-" || Hex([]byte{}) != "-" {
		t.Errorf("P7.1: of none: %q, %q", Hex(nil), Hex([]byte{}))
	}
	if b, ok := Unhex("-"); !ok || len(b) != 0 {
		t.Errorf("P7.1: Unhex of none: %v, %v", b, ok)
	}
	var all []byte
	for i := range 256 {
		all = append(all, byte(i))
		back, ok := Unhex(Hex(all))
		if want := fmt.Sprintf("%x", all); Hex(all) != want || !ok || !bytes.Equal(back, all) {
			t.Fatalf("P7.1: %v: %q, %v, %v", all, Hex(all), back, ok)
		}
	}
}

// Of all texts of two bytes none is read but two small hex digits.
func TestUnhexOfTwoBytes(t *testing.T) {
	for i := range 1 << 16 {
		s := string([]byte{byte(i >> 8), byte(i)})
		b, ok := Unhex(s)
		small := strings.Trim(s, "0123456789abcdef") == ""
		if ok != small || ok && (len(b) != 1 || Hex(b) != s) || !ok && len(b) != 0 {
			t.Fatalf("P7.1: Unhex(%q): %v, %v", s, b, ok)
		}
	}
}

func TestUnhexOfNone(t *testing.T) {
	for _, s := range []string{"", "0", "abc", "AB", "aB", "0g", "g0", "--", "-0", "0-", "-\n", " -", "00 ", " 00", "0x00", "00-", "é", "00\x00\x00", "61626", "6162AB", "+1"} {
		if b, ok := Unhex(s); ok || len(b) != 0 {
			t.Errorf("P7.1: Unhex(%q): %v, %v", s, b, ok)
		}
	}
}

func TestParseOfNone(t *testing.T) {
	for _, s := range []string{
		"", "\n", " ", "next 2", "next 2\n", "next 2\ndir 1", "next 2\ndir 1\n\n", "\nnext 2\ndir 1\n", "next 2\n\ndir 1\n", "next 2\r\ndir 1\r\n", "next 2\ndir 1\n\x00",
		"next 02\ndir 1\n", "next +2\ndir 1\n", "next 2\ndir 01\n", "next 2\ndir +1\n", "next 2\ndir -1\n", "next 2\ndir 0\n", "next -2\ndir 1\n", "next 2.0\ndir 1\n", "next 0x2\ndir 1\n", "next 1_0\ndir 1\n",
		"next\ndir 1\n", "next \ndir 1\n", "next 2\ndir\n", "next 2\ndir \n", "next  2\ndir 1\n", "next 2 \ndir 1\n", "next 2\ndir 1 \n", "next 2\n dir 1\n", " next 2\ndir 1\n", "next\t2\ndir 1\n", "next 2 2\ndir 1\n", "next 2\ndir 1 1\n",
		"next 2\nnext 2\ndir 1\n", "next 3\nnext 2\ndir 1\n", "dir 1\nnext 2\n", "dir 1\n", "next 2\ndir 1\nnext 2\n", "next 2\ndir 1\ndir 1\n",
		"Next 2\ndir 1\n", "next 2\nDIR 1\n", "foo\n", "next 2\ndir 1\nfoo\n", "next 2\ndir 1\n-\n", "next2\ndir 1\n",
		"next 99999999999999999999\ndir 1\n", "next 18446744073709551618\ndir 1\n", "next 1099511627777\ndir 1\n", "next 2\ndir 18446744073709551617\n",
		"next 3\nname a 2\ndir 1\nfile 2 -\n", "name a 2\n", "next 3\ndir 1\nfile 2 -\nname a 2\n", "next 3\ndir 1\nname a 2\nfile 2 -\nname a 2\n", "next 3\ndir 1\nname\nfile 2 -\n", "next 3\ndir 1\nname a\nfile 2 -\n", "next 3\ndir 1\nname a \nfile 2 -\n", "next 3\ndir 1\nname  2\nfile 2 -\n", "next 3\ndir 1\nname a  2\nfile 2 -\n", "next 3\ndir 1\nname a 02\nfile 2 -\n", "next 3\ndir 1\nname a 2 2\nfile 2 -\n", "next 3\ndir 1\nname a b\nfile 2 -\n", "next 3\ndir 1\nname 2 a\nfile 2 -\n",
		"next 3\ndir 1\nname a 2\nfile 2\n", "next 3\ndir 1\nname a 2\nfile 2 \n", "next 3\ndir 1\nname a 2\nfile 2  -\n", "next 3\ndir 1\nname a 2\nfile 2 --\n", "next 3\ndir 1\nname a 2\nfile 2 6\n", "next 3\ndir 1\nname a 2\nfile 2 616\n", "next 3\ndir 1\nname a 2\nfile 2 AB\n", "next 3\ndir 1\nname a 2\nfile 2 aB\n", "next 3\ndir 1\nname a 2\nfile 2 0x\n", "next 3\ndir 1\nname a 2\nfile 02 -\n", "next 3\ndir 1\nname a 2\nfile x -\n", "next 3\ndir 1\nname a 2\nfile -\n", "next 3\ndir 1\nname a 2\nfile 2 61 62\n", "next 3\ndir 1\nname a 2\nfile 2 - \n",
		"next 4\ndir 1\nname a 2\nname b 3\nfile 3 -\nfile 2 -\n", "next 4\ndir 1\nname b 3\nname a 2\nfile 2 -\nfile 3 -\n",
	} {
		refused(t, "P7.2", s)
	}
}

// exact holds that a text is refused, or read as a tree that is written as it was; it tells whether it is read.
func exact(t *testing.T, what, s string) bool {
	t.Helper()
	x, err := Parse(s)
	if err != nil {
		refused(t, what, s)
		return false
	}
	if written(x) != s || Text(x) != s {
		t.Errorf("%s: Parse(%q): %v", what, short(s), x)
	}
	return true
}

// Lines in another order, one less, one more: few of them are a tree's, as a name may move or go.
func TestParseOfOtherLines(t *testing.T) {
	_, s := some()
	l := strings.SplitAfter(s, "\n")
	l = l[:len(l)-1]
	read := 0
	for i := range l {
		for j := range i {
			swapped := slices.Clone(l)
			swapped[i], swapped[j] = l[j], l[i]
			if exact(t, "P7.2: swapped", strings.Join(swapped, "")) {
				read++
			}
		}
		if exact(t, "P7.2: one less", strings.Join(slices.Delete(slices.Clone(l), i, i+1), "")) {
			read++
		}
		for _, more := range []string{l[i], "\n", "dir 11\n", "file 11 -\n", "name b 4\n", "next 12\n"} {
			refused(t, "P7.2: one more", strings.Join(slices.Insert(slices.Clone(l), i, more), ""))
		}
	}
	if read != 5 {
		t.Errorf("P7.2: %d were read, of which there are 3 with names swapped between directories, 2 with a link less", read)
	}
}

// A text that is cut off is a tree's only where the inodes that are left out have no name ahead.
func TestParseOfCutOff(t *testing.T) {
	_, s := some()
	for i := range len(s) {
		if exact(t, "P7.2: cut off", s[:i]) != (strings.HasSuffix(s[:i], "dir 1\n") || strings.HasSuffix(s[:i], "dir 9\n")) {
			t.Errorf("P7.2: cut off: %q", s[:i])
		}
	}
}

// Whatever byte is gone, turned or added: what is read is written as it was, all else refused.
func TestParseOfTurnedBytes(t *testing.T) {
	_, s := some()
	read := 0
	for i := range len(s) + 1 {
		rest := s[min(i+1, len(s)):]
		tries := []string{s[:i] + rest}
		for c := range 256 {
			one := string([]byte{byte(c)})
			tries = append(tries, s[:i]+one+s[i:], s[:i]+one+rest)
		}
		for _, turned := range tries {
			if exact(t, "P7.2: turned", turned) {
				read++
			}
		}
	}
	if read < 100 {
		t.Errorf("only %d texts were read", read)
	}
}

func TestParseOfMuch(t *testing.T) {
	head := "next 2\ndir 1\n"
	for _, n := range []int{1<<20 - 1, 1 << 20, 1<<20 + 1, 1 << 22} {
		refused(t, "P7.2: lines", head+strings.Repeat("\n", n-len(head)))
		refused(t, "P7.2: blanks", head+strings.Repeat(" ", n-len(head)))
		refused(t, "P7.2: names", (head + strings.Repeat("name a 2\n", n/9+1))[:n-1]+"\n")
		refused(t, "P7.2: directories", (head + strings.Repeat("dir 1\n", n/6+1))[:n-1]+"\n")
		refused(t, "P7.2: digits", "next "+strings.Repeat("0", n-len(head))+"2\ndir 1\n")
		refused(t, "P7.2: bytes", "next 3\ndir 1\nname a 2\nfile 2 "+strings.Repeat("00", n/2)+"\n")
	}
}

// greatest is a tree of which nothing may be more.
func greatest() api.Tree {
	x := of(1<<40, dir(1))
	for i := range api.MaxNodes - 1 {
		ino := 1<<40 - api.MaxNodes + i
		for j := range api.MaxLinks {
			x.Nodes[0].Names = append(x.Nodes[0].Names, fmt.Sprintf("%06d%06d", i, j))
			x.Nodes[0].Inos = append(x.Nodes[0].Inos, ino)
		}
		x.Nodes = append(x.Nodes, file(ino, strings.Repeat("\xfe", api.MaxFile)))
	}
	return x
}

// chained is directories within each other, deeper than a path may lead: renamed ones can stand so.
func chained() api.Tree {
	x := of(api.MaxNodes+1, dir(1, "d", 2))
	for i := 2; i < api.MaxNodes; i++ {
		x.Nodes = append(x.Nodes, dir(i, "d", i+1))
	}
	x.Nodes = append(x.Nodes, dir(api.MaxNodes))
	return x
}

func TestParseOfText(t *testing.T) {
	reads(t, greatest(), written(greatest()))
	reads(t, chained(), written(chained()))
	d := dice(7)
	paths := []string{"/a", "/b", "/a/c", "/a/d", "/b/a", "/b/a/x", "/a/c/Z", "/-._", "/b/9"}
	x := tree.New()
	for i := range 4000 {
		if i%400 == 0 {
			x = tree.New()
		}
		data := make([]byte, d.below(9))
		for j := range data {
			data[j] = byte(d.below(256))
		}
		x.Do(api.Op{Kind: 1 + d.below(9), Path: paths[d.below(len(paths))], To: paths[d.below(len(paths))], Off: d.below(20), N: d.below(30), Data: data})
		all := x.All()
		reads(t, all, written(all))
	}
}

// What is handed in is neither changed, its spare room neither, nor kept.
func TestNothingHandedInChanges(t *testing.T) {
	x, s := some()
	for i := range x.Nodes {
		n := &x.Nodes[i]
		n.Data = append(n.Data, "spare"...)[:len(n.Data)]
		n.Names = append(n.Names, "spare")[:len(n.Names)]
		n.Inos = append(n.Inos, 99)[:len(n.Inos)]
	}
	x.Nodes = append(x.Nodes, file(99, "spare"))[:len(x.Nodes)]
	before := fmt.Sprintf("%q", full(x))
	if got := Text(x); got != s || fmt.Sprintf("%q", full(x)) != before {
		t.Errorf("P7.3: Text: %q\n%q", got, full(x))
	}
	b := []byte("ab--")[:2]
	if got := Hex(b); got != "6162" || string(b[:4]) != "ab--" {
		t.Errorf("P7.3: Hex: %q, %q", got, b[:4])
	}
	b[0] = 'z'
	if got := Hex(b); got != "7a62" {
		t.Errorf("P7.3: Hex of other bytes: %q", got)
	}
}

// full is a tree's nodes with all their spare room.
func full(x api.Tree) []any {
	var out []any
	for _, n := range x.Nodes[:cap(x.Nodes)] {
		out = append(out, n.Ino, n.Kind, n.Data[:cap(n.Data)], n.Names[:cap(n.Names)], n.Inos[:cap(n.Inos)])
	}
	return out
}

// What is answered is new memory, each list of its own.
func TestAnswersAreNew(t *testing.T) {
	want, s := some()
	x, err := Parse(s)
	if err != nil {
		t.Fatal(err)
	}
	for i := range x.Nodes {
		n := &x.Nodes[i]
		for j := range n.Data[:cap(n.Data)] {
			n.Data[:cap(n.Data)][j] = '#'
		}
		for j := range n.Names[:cap(n.Names)] {
			n.Names[:cap(n.Names)][j] = "#"
		}
		for j := range n.Inos[:cap(n.Inos)] {
			n.Inos[:cap(n.Inos)][j] = -1
		}
		if i+1 < len(x.Nodes) && !tree.Same(of(0, x.Nodes[i+1:]...), of(0, want.Nodes[i+1:]...)) {
			t.Errorf("P7.3: inodes behind %d share its lists: %v", n.Ino, x.Nodes[i+1:])
		}
	}
	reads(t, want, s)
	a, _ := Unhex("0001")
	b, _ := Unhex("0001")
	a[0] = 9
	if b[0] != 0 {
		t.Errorf("P7.3: Unhex answers one memory twice")
	}
}

// A name that is answered is not a piece of the text.
func TestNamesAreNew(t *testing.T) {
	_, s := some()
	x, _ := Parse(s)
	from := uintptr(unsafe.Pointer(unsafe.StringData(s)))
	for _, n := range x.Nodes {
		for _, name := range n.Names {
			at := uintptr(unsafe.Pointer(unsafe.StringData(name)))
			if at >= from && at < from+uintptr(len(s)) {
				t.Errorf("P7.3: the name %s is a piece of the text", name)
			}
		}
	}
}

// Within, an error tells the line and what is wrong with it, and wraps the number.
func TestErrorsWithin(t *testing.T) {
	for s, want := range map[string][]string{
		"next 2\ndir 1\nfoo 3\n":                  {"line 3", "word foo"},
		"next 2x\ndir 1\n":                        {"line 1", "number 2x"},
		"next 2\ndir x\n":                         {"line 2", "number x"},
		"next 3\ndir 1\nname a b\n":               {"line 3", "number b"},
		"next 3\nname a 2\n":                      {"line 2", "name a"},
		"next 3\ndir 1\nname a 2\nfile 2 0\n":     {"line 4", "hex 0"},
		"next 3\ndir 1\nname a 2\nfile y 00\n":    {"line 4", "number y"},
		"dir 1\nnext 2\n":                         {"whole "},
		"":                                        {"whole "},
		strings.Repeat("\n", maxText+1):           {"length "},
		"next 3\ndir 1\nfile 2 -\nname again 2\n": {"line 4", "name again"},
	} {
		_, err := read(s)
		var got []string
		for e := err; e != nil; e = errors.Unwrap(e) {
			if f, ok := e.(*api.Fault); ok {
				got = append(got, f.Op+" "+f.Path)
			}
		}
		if !reflect.DeepEqual(got, want) || !errors.Is(err, api.ErrBad) {
			t.Errorf("read(%q): %v", short(s), err)
		}
	}
}
