package fault

import (
	"errors"
	"fmt"
	"io"
	"slices"
	"strings"
	"testing"

	"dolmen/api"
)

// plain is an error with nothing within it.
type plain struct{ n int }

func (plain) Error() string { return "plain" }

// one has one error within it, or none, if that is nil; a nil one panics when it is asked.
type one struct{ err error }

func (o *one) Error() string { return "one" }
func (o *one) Unwrap() error { return o.err }

// many has some errors within it; it can't be compared.
type many []error

func (m many) Error() string   { return "many" }
func (m many) Unwrap() []error { return m }

// denying sets what it is asked for, and says that it has not got it.
type denying struct{}

func (denying) Error() string { return "denying" }
func (denying) As(target any) bool {
	switch t := target.(type) {
	case *api.Errno:
		*t = api.ErrDead
	case **api.Fault:
		*t = &api.Fault{Op: "denied", Path: "/denied"}
	}
	return false
}

// broken panics at whatever it is asked.
type broken struct{}

func (broken) Error() string { return "broken" }
func (broken) Unwrap() error { panic("Unwrap") }
func (broken) As(any) bool   { panic("As") }
func (broken) Is(error) bool { panic("Is") }

// claiming says of itself that it is a number.
type claiming struct{ code api.Errno }

func (claiming) Error() string          { return "claiming" }
func (c claiming) Is(target error) bool { return target == c.code }

var noneFault *api.Fault

// around is err within n Faults.
func around(n int, err error) error {
	for i := n; i > 0; i-- {
		err = New("op"+fmt.Sprint(i), "/"+fmt.Sprint(i), err)
	}
	return err
}

// P3.1

func TestNew(t *testing.T) {
	if got := New("a", "/", nil); got != nil {
		t.Errorf("New of nil: %#v", got)
	}
	if got := New("", "", nil); got != nil {
		t.Errorf("New of nothing: %#v", got)
	}
	for _, err := range []error{api.ErrNone, api.Errno(0), plain{1}, New("b", "/x", api.ErrDir), noneFault, Both(api.ErrDir, api.ErrFile)} {
		for _, text := range []string{"", "a", "a b", "/x/y", "\x00\xff"} {
			f, ok := New(text, text+"!", err).(*api.Fault)
			if !ok || f == nil || f.Op != text || f.Path != text+"!" || f.Err != err {
				t.Errorf("New(%q, %q, %v): %#v", text, text+"!", err, f)
			}
		}
	}
	if a, b := New("a", "/", api.ErrDir), New("a", "/", api.ErrDir); a == b {
		t.Error("two News are one Fault")
	}
}

func TestCode(t *testing.T) {
	two := errors.Join(plain{1}, New("c", "/c", api.ErrDir), api.ErrRead)
	for i, c := range []struct {
		err  error
		want api.Errno
	}{
		{nil, 0},
		{plain{2}, 0},
		{io.EOF, 0},
		{api.ErrArg, api.ErrArg},
		{api.ErrDead, api.ErrDead},
		{api.Errno(-7), -7},
		{api.Errno(1000), 1000},
		{noneFault, 0},
		{&api.Fault{Op: "a", Path: "/"}, 0},
		{New("a", "/", New("b", "/x", api.ErrNone)), api.ErrNone},
		{New("a", "/", plain{3}), 0},
		{around(100, api.ErrMany), api.ErrMany},
		{fmt.Errorf("w: %w", api.ErrMore), api.ErrMore},
		{two, api.ErrDir},
		{fmt.Errorf("w: %w", two), api.ErrDir},
		{New("x", "/", fmt.Errorf("w: %w", two)), api.ErrDir},
		{errors.Join(api.Errno(0), api.ErrDir), 0},
		{errors.Join(api.ErrDir, api.Errno(0)), api.ErrDir},
		{fmt.Errorf("%w, %w", plain{4}, api.ErrBusy), api.ErrBusy},
		{many{nil, plain{5}, many{}, many{nil, api.ErrOff}, api.ErrBad}, api.ErrOff},
		{many{}, 0},
		{many{nil, nil}, 0},
		{many{noneFault, api.ErrSnap}, api.ErrSnap},
		{many{New("a", "/", many{plain{6}}), New("b", "/", api.ErrLoop), api.ErrDir}, api.ErrLoop},
		{&one{}, 0},
		{&one{api.ErrPath}, api.ErrPath},
		{&one{many{&one{}, &one{api.ErrDeep}, api.ErrPath}}, api.ErrDeep},
	} {
		if got := Code(c.err); got != c.want {
			t.Errorf("Code at %d (%v): %d, want %d", i, c.err, got, c.want)
		}
	}
}

func TestOp(t *testing.T) {
	for i, c := range []struct {
		err      error
		op, path string
		ok       bool
	}{
		{nil, "", "", false},
		{api.ErrDir, "", "", false},
		{plain{1}, "", "", false},
		{fmt.Errorf("w: %w", errors.Join(plain{1}, api.ErrRead)), "", "", false},
		{New("a", "/", api.ErrNone), "a", "/", true},
		{New("a", "/", New("b", "/x", api.ErrNone)), "a", "/", true},
		{New("", "", api.ErrNone), "", "", true},
		{&api.Fault{}, "", "", true},
		{&api.Fault{Op: "a", Path: "b"}, "a", "b", true},
		{noneFault, "", "", false},
		{&one{noneFault}, "", "", false},
		{New("a", "/", noneFault), "a", "/", true},
		{many{noneFault, New("b", "/b", api.ErrDir)}, "", "", false},
		{many{New("b", "/b", api.ErrDir), noneFault}, "b", "/b", true},
		{many{api.ErrDir, nil, New("b", "/b", api.ErrDir), New("c", "/c", api.ErrDir)}, "b", "/b", true},
		{many{&one{New("b", "/b", api.ErrDir)}, New("c", "/c", api.ErrDir)}, "b", "/b", true},
		{fmt.Errorf("w: %w", New("a b", "/c d", plain{1})), "a b", "/c d", true},
	} {
		op, path, ok := Op(c.err)
		if op != c.op || path != c.path || ok != c.ok {
			t.Errorf("Op at %d (%v): %q %q %v, want %q %q %v", i, c.err, op, path, ok, c.op, c.path, c.ok)
		}
	}
}

func TestChain(t *testing.T) {
	for i, c := range []struct {
		err  error
		want []string
	}{
		{nil, nil},
		{api.ErrDir, nil},
		{many{plain{1}, &one{}}, nil},
		{New("a", "/", New("b", "/x", api.ErrNone)), []string{"a /", "b /x"}},
		{New("", "", api.ErrNone), []string{" "}},
		{New("a", "", New("", "/", api.ErrNone)), []string{"a ", " /"}},
		{&api.Fault{}, []string{" "}},
		{New("a", "/", &api.Fault{Op: "b", Path: "/x"}), []string{"a /", "b /x"}},
		{noneFault, nil},
		{New("a", "/", noneFault), []string{"a /"}},
		{New("a", "/", &one{noneFault}), []string{"a /"}},
		{New("a", "/", many{noneFault, New("b", "/b", api.ErrDir)}), []string{"a /"}},
		{many{noneFault, New("b", "/b", api.ErrDir)}, nil},
		{&one{New("a", "/", fmt.Errorf("w: %w", New("b", "/b", &one{New("c", "/c", plain{1})})))}, []string{"a /", "b /b", "c /c"}},
		{many{New("a", "/a", New("b", "/b", api.ErrDir)), New("c", "/c", api.ErrDir)}, []string{"a /a", "b /b"}},
		{many{New("a", "/a", api.ErrDir), New("c", "/c", New("d", "/d", api.ErrDir))}, []string{"a /a"}},
		{New("x", "/", many{api.ErrDir, New("c", "/c", New("d", "/d", api.ErrDir))}), []string{"x /", "c /c", "d /d"}},
	} {
		if got := Chain(c.err); !slices.Equal(got, c.want) {
			t.Errorf("Chain at %d (%v): %q, want %q", i, c.err, got, c.want)
		}
	}
}

func TestChainIsNewEachTime(t *testing.T) {
	err := around(3, api.ErrDir)
	got := Chain(err)
	clear(got)
	if again := Chain(err); !slices.Equal(again, []string{"op1 /1", "op2 /2", "op3 /3"}) {
		t.Errorf("Chain behind a changed answer: %q", again)
	}
}

// P3.2

func TestInner(t *testing.T) {
	join := errors.Join(plain{1}, api.ErrDir)
	empty := &one{}
	bare := &api.Fault{Op: "a", Path: "/"}
	for i, c := range []struct{ err, want error }{
		{nil, nil},
		{api.ErrDir, api.ErrDir},
		{api.Errno(0), api.Errno(0)},
		{plain{7}, plain{7}},
		{New("a", "/", New("b", "/x", api.ErrNone)), api.ErrNone},
		{around(50, plain{8}), plain{8}},
		{fmt.Errorf("w: %w", api.ErrNone), api.ErrNone},
		{join, join},
		{New("x", "y", join), join},
		{fmt.Errorf("w: %w", &one{join}), join},
		{empty, empty},
		{&one{empty}, empty},
		{bare, bare},
		{New("x", "y", bare), bare},
		{noneFault, noneFault},
		{New("x", "y", noneFault), noneFault},
	} {
		if got := Inner(c.err); got != c.want {
			t.Errorf("Inner at %d (%v): %#v, want %#v", i, c.err, got, c.want)
		}
	}
	if got, ok := Inner(&one{many{api.ErrDir}}).(many); !ok || len(got) != 1 {
		t.Errorf("Inner of many in one: %v", got)
	}
	both := Both(api.ErrDir, New("a", "/", api.ErrNone))
	if got := Inner(New("x", "/", both)); got != both {
		t.Errorf("Inner goes into both: %#v", got)
	}
}

func TestBothOfNil(t *testing.T) {
	if got := Both(nil, nil); got != nil {
		t.Errorf("Both of nothing: %#v", got)
	}
	for _, err := range []error{api.ErrDir, New("a", "/", api.ErrNone), noneFault, &one{}} {
		if got := Both(err, nil); got != err {
			t.Errorf("Both(%v, nil): %#v", err, got)
		}
		if got := Both(nil, err); got != err {
			t.Errorf("Both(nil, %v): %#v", err, got)
		}
	}
}

func TestBoth(t *testing.T) {
	a, b := New("a", "/a", api.ErrNone), New("b", "/b", api.ErrDir)
	for _, c := range [][2]error{{a, b}, {b, a}, {a, a}, {plain{1}, b}, {Both(plain{2}, a), b}, {a, Both(plain{3}, b)}} {
		both := Both(c[0], c[1])
		if both == c[0] || both == c[1] || !errors.Is(both, c[0]) || !errors.Is(both, c[1]) {
			t.Errorf("Both(%v, %v) has not both within it", c[0], c[1])
		}
		list, ok := both.(interface{ Unwrap() []error })
		if !ok || !slices.Equal(list.Unwrap(), c[:]) {
			t.Errorf("Both(%v, %v) tells others", c[0], c[1])
		}
	}
	if got := Code(Both(a, b)); got != api.ErrNone {
		t.Errorf("Code of a and b: %d", got)
	}
	if got := Code(Both(b, a)); got != api.ErrDir {
		t.Errorf("Code of b and a: %d", got)
	}
	if got := Code(Both(plain{1}, Both(b, a))); got != api.ErrDir {
		t.Errorf("Code of no number and b and a: %d", got)
	}
	if got := Chain(Both(Both(plain{1}, a), b)); !slices.Equal(got, []string{"a /a"}) {
		t.Errorf("Chain of both: %q", got)
	}
	if text := Both(a, b).Error(); !strings.Contains(text, a.Error()) || !strings.Contains(text, b.Error()) {
		t.Errorf("the words of both: %q", text)
	}
}

func TestBothOfANilFault(t *testing.T) {
	both := Both(noneFault, api.ErrDir)
	if _, _, ok := Op(both); ok || Code(both) != api.ErrDir || len(Chain(both)) != 0 {
		t.Errorf("both with a nil Fault: %v %d %q", ok, Code(both), Chain(both))
	}
}

func TestBothStaysAsItIs(t *testing.T) {
	both := Both(api.ErrDir, api.ErrFile)
	clear(both.(interface{ Unwrap() []error }).Unwrap())
	if Code(both) != api.ErrDir || !errors.Is(both, api.ErrFile) {
		t.Errorf("both was changed by what it told: %v", both)
	}
}

func TestBothCanBeHeldAgainstEachOther(t *testing.T) {
	a, b := Both(many{}, many{}), Both(many{}, many{})
	if errors.Is(a, b) || !errors.Is(a, a) || !errors.Is(New("x", "/", a), a) {
		t.Error("both of uncomparable errors are not told apart")
	}
}

func TestIs(t *testing.T) {
	a := New("a", "/", New("b", "/x", api.ErrNone))
	two := fmt.Errorf("w: %w", errors.Join(plain{1}, New("c", "/c", api.ErrDir), api.ErrRead))
	for i, c := range []struct {
		err   error
		codes []api.Errno
		want  bool
	}{
		{a, []api.Errno{api.ErrNone}, true},
		{a, []api.Errno{api.ErrDir, api.ErrNone}, true},
		{a, []api.Errno{api.ErrNone, api.ErrDir}, true},
		{a, []api.Errno{api.ErrDir}, false},
		{a, []api.Errno{api.ErrDir, api.ErrFile, 0}, false},
		{a, nil, false},
		{nil, nil, false},
		{nil, []api.Errno{api.ErrDir}, false},
		{nil, []api.Errno{0}, false},
		{plain{1}, []api.Errno{0}, false},
		{api.Errno(0), []api.Errno{0}, true},
		{api.Errno(77), []api.Errno{76, 77}, true},
		{two, []api.Errno{api.ErrRead}, true},
		{two, []api.Errno{api.ErrDir}, true},
		{two, []api.Errno{api.ErrNone, api.ErrMore}, false},
		{noneFault, []api.Errno{api.ErrDir, 0}, false},
		{many{nil, noneFault, many{api.ErrMany}}, []api.Errno{api.ErrMany}, true},
		{New("a", "/", claiming{api.ErrBusy}), []api.Errno{api.ErrBusy}, true},
		{New("a", "/", claiming{api.ErrBusy}), []api.Errno{api.ErrDead}, false},
	} {
		if got := Is(c.err, c.codes...); got != c.want {
			t.Errorf("Is at %d (%v, %v): %v", i, c.err, c.codes, got)
		}
	}
}

func TestIsLeavesTheNumbers(t *testing.T) {
	codes := []api.Errno{api.ErrDir, api.ErrFile, api.ErrNone}
	Is(api.ErrFile, codes[:2]...)
	if !slices.Equal(codes, []api.Errno{api.ErrDir, api.ErrFile, api.ErrNone}) {
		t.Errorf("the numbers were changed: %v", codes)
	}
}

// P3.3

func TestHoweverOftenItIsWrapped(t *testing.T) {
	wraps := []func(error) error{
		func(err error) error { return New("w", "/w", err) },
		func(err error) error { return fmt.Errorf("w: %w", err) },
		func(err error) error { return Both(plain{1}, err) },
		func(err error) error { return Both(err, plain{2}) },
		func(err error) error { return errors.Join(nil, err) },
		func(err error) error { return &one{err} },
		func(err error) error { return many{nil, err} },
	}
	inner := &api.Fault{Op: "in", Path: "/in", Err: api.ErrLoop}
	for start := range wraps {
		var err error = inner
		for i := range 60 {
			err = wraps[(start+i*(start+1))%len(wraps)](err)
			var f *api.Fault
			var p plain
			if !errors.Is(err, api.ErrLoop) || !errors.Is(err, inner) || !errors.As(err, &f) || f == nil {
				t.Fatalf("wrapped %d times from %d on: not found", i+1, start)
			}
			if Code(err) != api.ErrLoop || !Is(err, api.ErrDir, api.ErrLoop) || Is(err, api.ErrDir) {
				t.Fatalf("wrapped %d times from %d on: %d", i+1, start, Code(err))
			}
			if errors.As(err, &p) && p.n != 1 && p.n != 2 {
				t.Fatalf("wrapped %d times from %d on: %v", i+1, start, p)
			}
			chain := Chain(err)
			if len(chain) == 0 || chain[len(chain)-1] != "in /in" {
				t.Fatalf("wrapped %d times from %d on: %q", i+1, start, chain)
			}
		}
	}
}

func TestDeep(t *testing.T) {
	const n = 100000
	err := around(n, api.ErrRange)
	var f *api.Fault
	if !errors.Is(err, api.ErrRange) || !errors.As(err, &f) || f.Op != "op1" {
		t.Error("errors.Is or errors.As does not find it")
	}
	if Code(err) != api.ErrRange || Inner(err) != api.ErrRange || !Is(err, api.ErrRange) {
		t.Error("the number is not found")
	}
	if got := Chain(err); len(got) != n || got[0] != "op1 /1" || got[n-1] != fmt.Sprintf("op%d /%d", n, n) {
		t.Errorf("Chain of %d Faults has %d", n, len(got))
	}
}

// What comes in is asked by errors.Is and errors.As, and may answer anything.

func TestOneThatDenies(t *testing.T) {
	err := New("a", "/", denying{})
	if op, path, ok := Op(denying{}); op != "" || path != "" || ok {
		t.Errorf("Op: %q %q %v", op, path, ok)
	}
	if Code(err) != 0 || len(Chain(denying{})) != 0 || !slices.Equal(Chain(err), []string{"a /"}) {
		t.Errorf("Code %d, Chain %q", Code(err), Chain(err))
	}
	behind := many{denying{}, New("b", "/b", api.ErrDir)}
	if Code(behind) != api.ErrDir || !slices.Equal(Chain(behind), []string{"b /b"}) {
		t.Errorf("behind it: Code %d, Chain %q", Code(behind), Chain(behind))
	}
}

func TestOneThatPanics(t *testing.T) {
	var nothing *one
	for _, bad := range []error{broken{}, nothing} {
		err := New("a", "/", &one{bad})
		if op, path, ok := Op(bad); op != "" || path != "" || ok {
			t.Errorf("Op: %q %q %v", op, path, ok)
		}
		if Code(err) != 0 || Is(err, api.ErrDir, 0) || Inner(err) != bad {
			t.Errorf("Code %d, Is %v, Inner %v", Code(err), Is(err, api.ErrDir, 0), Inner(err))
		}
		if got := Chain(err); !slices.Equal(got, []string{"a /"}) {
			t.Errorf("Chain: %q", got)
		}
		both := Both(New("a", "/", api.ErrDir), bad)
		if Code(both) != api.ErrDir || !Is(both, api.ErrDir) {
			t.Errorf("ahead of it: Code %d", Code(both))
		}
	}
}
