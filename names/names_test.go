package names

import (
	"slices"
	"strings"
	"testing"

	"dolmen/api"
)

func x(n int) string { return strings.Repeat("x", n) }

// splits holds what Split answers against the names wanted.
func splits(t *testing.T, path string, want ...string) {
	t.Helper()
	got, err := Split(path)
	if err != nil || !slices.Equal(got, want) {
		t.Errorf("Split(%q): %q, %v; want %q", path, got, err, want)
	}
}

// refuses holds Split and Parent against the bare number wanted, and their other results against zero.
func refuses(t *testing.T, path string, want api.Errno) {
	t.Helper()
	if l, err := Split(path); err != error(want) || len(l) != 0 {
		t.Errorf("Split(%q): %q, %#v; want nothing, %#v", path, l, err, want)
	}
	if dir, name, err := Parent(path); err != error(want) || dir != "" || name != "" {
		t.Errorf("Parent(%q): %q, %q, %#v; want nothing, %#v", path, dir, name, err, want)
	}
}

// P4.1

func TestSplitNames(t *testing.T) {
	splits(t, "/")
	splits(t, "/a", "a")
	splits(t, "/a/b", "a", "b")
	splits(t, "/a/a/a", "a", "a", "a")
	splits(t, "/az/AZ/09/._-", "az", "AZ", "09", "._-")
	splits(t, "/.../.a/a./..b", "...", ".a", "a.", "..b")
	splits(t, "/-/_", "-", "_")
	splits(t, "/"+x(12), x(12))
	splits(t, "/1/2/3/4/5/6", "1", "2", "3", "4", "5", "6")
	splits(t, strings.Repeat("/"+x(12), 6), x(12), x(12), x(12), x(12), x(12), x(12))
}

func TestSplitEachByte(t *testing.T) {
	const may = "abcdefghijklmnopqrstuvwxyzABCDEFGHIJKLMNOPQRSTUVWXYZ0123456789._-"
	for i := range 256 {
		name := "a" + string([]byte{byte(i)}) + "b"
		switch {
		case i == '/':
			splits(t, "/"+name, "a", "b")
		case strings.IndexByte(may, byte(i)) >= 0:
			splits(t, "/"+name, name)
		default:
			refuses(t, "/"+name, api.ErrPath)
			refuses(t, "/ok/"+string([]byte{byte(i)}), api.ErrPath)
		}
	}
}

func TestSplitNoPath(t *testing.T) {
	for _, path := range []string{"", "a", "a/b", ".", "..", " /a", "//", "///", "//a", "/a/", "/a//b", "/a//", "/.", "/..", "/./a", "/a/.", "/a/..", "/../a", "/a/./b", "/a b", "/a\x00", "/é", "/*", "/a?", "\\a", "/a\n"} {
		refuses(t, path, api.ErrPath)
	}
}

func TestSplitLimits(t *testing.T) {
	refuses(t, "/"+x(13), api.ErrName)
	refuses(t, "/a/"+x(13)+"/b", api.ErrName)
	refuses(t, "/1/2/3/4/5/6/7", api.ErrDeep)
	refuses(t, strings.Repeat("/"+x(12), 7), api.ErrDeep)
	refuses(t, "/"+x(199), api.ErrName)
	refuses(t, "/"+x(200), api.ErrPath)
	refuses(t, strings.Repeat("/a", 100), api.ErrDeep)
	refuses(t, strings.Repeat("/a", 100)+"b", api.ErrPath)
	refuses(t, "/"+x(1<<20), api.ErrPath)
	refuses(t, strings.Repeat("/", 1<<20), api.ErrPath)
}

// Each rule is asked of the whole path, an earlier rule first, wherever it is broken.
func TestSplitMoreThanOneWrong(t *testing.T) {
	refuses(t, "/"+x(13)+"/ ", api.ErrPath)
	refuses(t, "/ /"+x(13), api.ErrPath)
	refuses(t, "/"+x(13)+"/", api.ErrPath)
	refuses(t, "/"+x(13)+" ", api.ErrPath)
	refuses(t, "/1/2/3/4/5/6/7/?", api.ErrPath)
	refuses(t, "/1/2/3/4/5/6/7/..", api.ErrPath)
	refuses(t, "/1/2/3/4/5/6/7/", api.ErrPath)
	refuses(t, "1/2/3/4/5/6/7/"+x(13), api.ErrPath)
	refuses(t, "/1/2/3/4/5/6/"+x(13), api.ErrName)
	refuses(t, "/"+x(13)+"/2/3/4/5/6/7", api.ErrName)
	refuses(t, "/1/2/3/4/5/6/7/8/"+x(13), api.ErrName)
	refuses(t, "/1/2/3/4/5/6/"+x(200), api.ErrPath)
}

func TestJoin(t *testing.T) {
	for _, c := range []struct {
		l    []string
		want string
	}{
		{nil, "/"},
		{[]string{}, "/"},
		{[]string{"a"}, "/a"},
		{[]string{"a", "b"}, "/a/b"},
		{[]string{"c", "b", "c"}, "/c/b/c"},
		{[]string{"", ""}, "//"},
		{[]string{"a/b", " "}, "/a/b/ "},
		{[]string{x(300)}, "/" + x(300)},
	} {
		if got := Join(c.l...); got != c.want {
			t.Errorf("Join(%q): %q; want %q", c.l, got, c.want)
		}
	}
}

func TestParent(t *testing.T) {
	for _, c := range [][3]string{
		{"/a", "/", "a"},
		{"/a/b", "/a", "b"},
		{"/a/b/c", "/a/b", "c"},
		{"/a/a", "/a", "a"},
		{"/1/2/3/4/5/6", "/1/2/3/4/5", "6"},
		{"/" + x(12), "/", x(12)},
	} {
		dir, name, err := Parent(c[0])
		if dir != c[1] || name != c[2] || err != nil {
			t.Errorf("Parent(%q): %q, %q, %v; want %q, %q", c[0], dir, name, err, c[1], c[2])
		}
	}
	if dir, name, err := Parent("/"); dir != "" || name != "" || err != error(api.ErrPath) {
		t.Errorf("Parent of /: %q, %q, %v", dir, name, err)
	}
}

// P4.2

func TestUnder(t *testing.T) {
	for _, c := range []struct {
		path, dir string
		want      bool
	}{
		{"/", "/", true},
		{"/a", "/", true},
		{"/a", "/a", true},
		{"/a/b", "/a", true},
		{"/a/b/c", "/a", true},
		{"/a/b/c", "/a/b", true},
		{"/1/2/3/4/5/6", "/1/2/3/4/5/6", true},
		{"/", "/a", false},
		{"/a", "/a/b", false},
		{"/ab", "/a", false},
		{"/a", "/ab", false},
		{"/a/b", "/b", false},
		{"/a/c/d", "/a/b", false},
		{"/b/a", "/a", false},
		{"/A", "/a", false},
		{"a", "/", false},
		{"", "/", false},
		{"", "", false},
		{"/a", "", false},
		{"a", "a", false},
		{"/a/", "/a", false},
		{"/a/b", "/a/", false},
		{"/a/..", "/a", false},
		{"/" + x(13), "/", false},
		{"/" + x(13), "/" + x(13), false},
		{"/1/2/3/4/5/6/7", "/1", false},
		{"/1", "/1/2/3/4/5/6/7", false},
	} {
		if got := Under(c.path, c.dir); got != c.want {
			t.Errorf("Under(%q, %q): %v", c.path, c.dir, got)
		}
	}
}

func TestLess(t *testing.T) {
	rising := []string{"", "\x00", "-", "0", "10", "9", "A", "Z", "a", "a\x00", "a/b", "aa", "b", "\x7f", "\x80", "é", "\xff"}
	for i, a := range rising {
		for j, b := range rising {
			if Less(a, b) != (i < j) {
				t.Errorf("Less(%q, %q): %v", a, b, Less(a, b))
			}
		}
	}
}

func TestSorted(t *testing.T) {
	for _, c := range []struct{ l, want []string }{
		{nil, nil},
		{[]string{}, nil},
		{[]string{""}, []string{""}},
		{[]string{"b", "a"}, []string{"a", "b"}},
		{[]string{"a", "a", "a"}, []string{"a"}},
		{[]string{"b", "a", "b", "B", "", "a"}, []string{"", "B", "a", "b"}},
		{[]string{"é", "z", "10", "9", "a/b", "a"}, []string{"10", "9", "a", "a/b", "z", "é"}},
	} {
		if got := Sorted(c.l); !slices.Equal(got, c.want) {
			t.Errorf("Sorted(%q): %q; want %q", c.l, got, c.want)
		}
	}
}

func TestMatch(t *testing.T) {
	for _, c := range []struct {
		pattern, name string
		want          bool
	}{
		{"", "", true},
		{"", "a", false},
		{"a", "", false},
		{"a", "a", true},
		{"a", "A", false},
		{"a", "ab", false},
		{"ab", "a", false},
		{"*", "", true},
		{"*", "a", true},
		{"*", "*", true},
		{"*", "**", true},
		{"*", "a/b", true},
		{"**", "", true},
		{"?", "", false},
		{"?", "a", true},
		{"?", "ab", false},
		{"?", "?", true},
		{"a", "?", false},
		{"a", "*", false},
		{"??", "é", true},
		{"?", "é", false},
		{"é", "é", true},
		{"?\xa9", "é", true},
		{"?", "\xff", true},
		{"*?", "", false},
		{"*?", "a", true},
		{"?*?", "a", false},
		{"?*?", "ab", true},
		{"a*", "a", true},
		{"a*", "ba", false},
		{"*a", "ba", true},
		{"*a", "ab", false},
		{"a*c", "ac", true},
		{"a*c", "abbc", true},
		{"a*c", "abcbc", true},
		{"a*c", "abcb", false},
		{"*ab*ab", "abab", true},
		{"*ab*ab", "aab", false},
		{"**a*", "bab", true},
		{"a?c", "abc", true},
		{"a?c", "ac", false},
		{"[a]", "a", false},
		{"[a]", "[a]", true},
		{"\\*", "*", false},
		{"\\*", "\\x", true},
		{".", "a", false},
		{"a.b", "axb", false},
	} {
		if got := Match(c.pattern, c.name); got != c.want {
			t.Errorf("Match(%q, %q): %v", c.pattern, c.name, got)
		}
	}
}

func TestMatchLimits(t *testing.T) {
	for _, c := range []struct {
		pattern, name string
		want          bool
	}{
		{strings.Repeat("?", 40), x(40), true},
		{x(40), x(40), true},
		{strings.Repeat("*", 40), x(40), true},
		{"*", x(40), true},
		{strings.Repeat("*", 40), "", true},
		{strings.Repeat("?", 40), x(39), false},
		{"*", x(41), false},
		{strings.Repeat("*", 41), "x", false},
		{strings.Repeat("*", 41), "", false},
		{x(41), x(41), false},
		{x(41), x(40), false},
		{strings.Repeat("*x", 20), x(40), true},
		{strings.Repeat("*x", 19) + "*y", x(40), false},
	} {
		if got := Match(c.pattern, c.name); got != c.want {
			t.Errorf("Match(%q, %q): %v", c.pattern, c.name, got)
		}
	}
}

// stands is what a pattern means, as plainly as it can be said.
func stands(pattern, name string) bool {
	if pattern == "" {
		return name == ""
	}
	if pattern[0] == '*' {
		return stands(pattern[1:], name) || name != "" && stands(pattern, name[1:])
	}
	return name != "" && (pattern[0] == '?' || pattern[0] == name[0]) && stands(pattern[1:], name[1:])
}

// texts is every text of at most n of the letters.
func texts(letters string, n int) []string {
	out := []string{""}
	for begin := 0; n > 0; n-- {
		end := len(out)
		for _, s := range out[begin:end] {
			for i := range len(letters) {
				out = append(out, s+letters[i:i+1])
			}
		}
		begin = end
	}
	return out
}

func TestMatchAllShort(t *testing.T) {
	for _, pattern := range texts("ab*?", 5) {
		for _, name := range texts("ab*", 4) {
			if got := Match(pattern, name); got != stands(pattern, name) {
				t.Fatalf("Match(%q, %q): %v", pattern, name, got)
			}
		}
	}
}

// P4.3

func TestSplitOfJoin(t *testing.T) {
	may := []string{"a", "...", x(12), "-", "B9._-", "..a", "z"}
	for n := range api.MaxDepth + 1 {
		for i := range may {
			l := append(slices.Clone(may[i:]), may[:i]...)[:n]
			splits(t, Join(l...), l...)
			if n == 0 {
				continue
			}
			dir, name, err := Parent(Join(l...))
			if dir != Join(l[:n-1]...) || name != l[n-1] || err != nil {
				t.Errorf("Parent(%q): %q, %q, %v", Join(l...), dir, name, err)
			}
		}
	}
}

func TestHandedInStays(t *testing.T) {
	room := []string{"b", "a", "b", "c", "d"}
	in := room[:3]
	out := Sorted(in)
	Join(in...)
	if !slices.Equal(room, []string{"b", "a", "b", "c", "d"}) {
		t.Errorf("changed: %q", room)
	}
	in[0] = "z"
	if !slices.Equal(out, []string{"a", "b"}) {
		t.Errorf("kept: %q", out)
	}
	out = append(out, "y")
	out[0] = "x"
	if !slices.Equal(room, []string{"z", "a", "b", "c", "d"}) {
		t.Errorf("shared: %q", room)
	}
}

func TestAnswersAreNew(t *testing.T) {
	one, _ := Split("/a/b")
	two, _ := Split("/a/b")
	one[0] = "x"
	one = append(one, "y")
	splits(t, "/a/b", "a", "b")
	if !slices.Equal(two, []string{"a", "b"}) {
		t.Errorf("shared: %q, %q", one, two)
	}
	sorted := []string{"a", "b"}
	Sorted(sorted)[0] = "x"
	if sorted[0] != "a" {
		t.Errorf("Sorted handed out its argument")
	}
}
