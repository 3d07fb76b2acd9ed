package config

import (
	"errors"
	"fmt"
	"math"
	"strings"
	"testing"

	"hopper/api"
)

// panicking is a foreign error whose every call panics.
type panicking struct{}

func (panicking) Error() string { panic("no text") }
func (panicking) Unwrap() error { panic("nothing within") }

// liar claims to be whatever is asked for, and lays nothing.
type liar struct{}

func (liar) Error() string { return "liar" }
func (liar) As(any) bool   { return true }

// nested is a *Bad of so many levels, each with its depth as N, around e.
func nested(levels int, e error) error {
	for i := levels; i > 0; i-- {
		e = &Bad{Field: "at", N: i, Err: e}
	}
	return e
}

// wrapped is e in so many errors of another kind.
func wrapped(times int, e error) error {
	for i := range times {
		e = fmt.Errorf("wrap %d: %w", i, e)
	}
	return e
}

func noBad() *Bad { return nil }

// P1.1
func TestBadTellsItsText(t *testing.T) {
	for _, c := range []struct {
		bad  *Bad
		text string
	}{
		{&Bad{Field: "line", N: 3, Err: api.ErrForm}, "line: 3: form"},
		{&Bad{Field: "policy", N: 9, Err: api.ErrConfig}, "policy: 9: config"},
		{&Bad{Field: "capacity", N: -17, Err: api.ErrOp}, "capacity: -17: op"},
		{&Bad{Field: "a"}, "a: 0"},
		{&Bad{}, ": 0"},
		{&Bad{Err: errors.New("")}, ": 0: "},
		{&Bad{Field: "a: b", N: 1, Err: errors.New("c: d")}, "a: b: 1: c: d"},
		{&Bad{Field: "k\nü", N: 7, Err: api.OK}, "k\nü: 7: ok"},
		{&Bad{Field: "n", N: 1, Err: api.Errno(99)}, "n: 1: unknown"},
		{&Bad{Field: "least", N: math.MinInt64}, "least: -9223372036854775808"},
		{&Bad{Field: "most", N: math.MaxInt64}, "most: 9223372036854775807"},
		{&Bad{Field: "x", N: 1, Err: &Bad{Field: "line", N: 3, Err: api.ErrForm}}, "x: 1: line: 3: form"},
		{&Bad{Field: "x", N: 1, Err: &Bad{Field: "y", N: 2}}, "x: 1: y: 2"},
		{&Bad{Field: "x", N: 1, Err: fmt.Errorf("w: %w", &Bad{Field: "y", N: 2, Err: api.ErrOp})}, "x: 1: w: y: 2: op"},
		{&Bad{Field: "x", N: 1, Err: noBad()}, "x: 1: "},
		{noBad(), ""},
	} {
		if got := c.bad.Error(); got != c.text {
			t.Errorf("%#v: %q, not %q", c.bad, got, c.text)
		}
	}
}

// P1.1
func TestBadIsAnError(t *testing.T) {
	var e error = &Bad{Field: "x", N: 1, Err: api.ErrOp}
	if e.Error() != "x: 1: op" {
		t.Errorf("%q", e.Error())
	}
}

// P1.1
func TestBadUnwraps(t *testing.T) {
	inner := &Bad{Field: "y", N: 2, Err: api.ErrForm}
	if got := (&Bad{Field: "x", N: 1, Err: inner}).Unwrap(); got != error(inner) {
		t.Errorf("a *Bad within: %v", got)
	}
	if got := inner.Unwrap(); got != error(api.ErrForm) {
		t.Errorf("a number within: %v", got)
	}
	if got := (&Bad{Field: "x", N: 1}).Unwrap(); got != nil {
		t.Errorf("nothing within: %v", got)
	}
	if got := noBad().Unwrap(); got != nil {
		t.Errorf("a nil one: %v", got)
	}
}

// P1.2
func TestMayAllows(t *testing.T) {
	for policy := 1; policy <= 5; policy++ {
		for _, capacity := range []int{1, 2, 1000, 1048575, 1048576} {
			if e := May(policy, capacity); e != nil {
				t.Errorf("%d, %d: %v", policy, capacity, e)
			}
		}
	}
}

// P1.2: with both wrong, the policy is told.
func TestMayRefuses(t *testing.T) {
	for _, c := range []struct {
		policy, capacity int
		field            string
		n                int
	}{
		{9, 4, "policy", 9},
		{0, 1, "policy", 0},
		{6, 1, "policy", 6},
		{-1, 1, "policy", -1},
		{math.MinInt64, 1, "policy", math.MinInt64},
		{math.MaxInt64, 1, "policy", math.MaxInt64},
		{1, 0, "capacity", 0},
		{5, 0, "capacity", 0},
		{1, 1048577, "capacity", 1048577},
		{5, 1048577, "capacity", 1048577},
		{3, -1, "capacity", -1},
		{3, math.MinInt64, "capacity", math.MinInt64},
		{3, math.MaxInt64, "capacity", math.MaxInt64},
		{0, 0, "policy", 0},
		{6, 1048577, "policy", 6},
		{-5, 1048577, "policy", -5},
	} {
		bad, ok := May(c.policy, c.capacity).(*Bad)
		if !ok || bad == nil || *bad != (Bad{Field: c.field, N: c.n, Err: api.ErrConfig}) {
			t.Errorf("%d, %d: %#v", c.policy, c.capacity, bad)
		}
	}
	if got := May(9, 4).Error(); got != "policy: 9: config" {
		t.Errorf("the chapter's example: %q", got)
	}
}

// P1.2, R3: no later call changes what was told, and what is done to one error shows in no other.
func TestMayTellsErrorsOfTheirOwn(t *testing.T) {
	first := May(0, 1).(*Bad)
	first.Field, first.N, first.Err = "spoilt", 77, nil
	if again := May(0, 1).(*Bad); *again != (Bad{Field: "policy", N: 0, Err: api.ErrConfig}) {
		t.Errorf("%#v", again)
	}
	if first.Field != "spoilt" || first.N != 77 {
		t.Errorf("%#v", first)
	}
}

// P1.3
func TestCode(t *testing.T) {
	for _, c := range []struct {
		name string
		e    error
		code api.Errno
	}{
		{"nil", nil, api.OK},
		{"ok as an error", api.OK, api.OK},
		{"config", api.ErrConfig, api.ErrConfig},
		{"op", api.ErrOp, api.ErrOp},
		{"form", api.ErrForm, api.ErrForm},
		{"an unknown number", api.Errno(-4), api.Errno(-4)},
		{"wrapped once", wrapped(1, api.ErrOp), api.ErrOp},
		{"wrapped often", wrapped(50, api.ErrConfig), api.ErrConfig},
		{"in a *Bad", &Bad{Field: "x", Err: api.ErrOp}, api.ErrOp},
		{"in a *Bad within a *Bad", nested(2, api.ErrOp), api.ErrOp},
		{"a *Bad wrapped", wrapped(3, nested(3, wrapped(3, api.ErrConfig))), api.ErrConfig},
		{"the second of two joined", errors.Join(errors.New("x"), api.ErrOp), api.ErrOp},
		{"the first number of two", errors.Join(api.ErrConfig, api.ErrOp), api.ErrConfig},
		{"another error", errors.New("config"), api.ErrForm},
		{"another error, wrapped", wrapped(2, errors.New("x")), api.ErrForm},
		{"a *Bad without Err", &Bad{Field: "x", N: 1}, api.ErrForm},
		{"a *Bad around another error", &Bad{Field: "x", N: 1, Err: errors.New("x")}, api.ErrForm},
		{"a nil *Bad", noBad(), api.ErrForm},
		{"a *Bad around a nil *Bad", &Bad{Field: "x", Err: noBad()}, api.ErrForm},
	} {
		if got := Code(c.e); got != c.code {
			t.Errorf("%s: %v, not %v", c.name, got, c.code)
		}
	}
}

// P1.3
func TestField(t *testing.T) {
	bad := &Bad{Field: "line", N: 3, Err: api.ErrForm}
	for _, c := range []struct {
		name  string
		e     error
		field string
		n     int
		ok    bool
	}{
		{"nil", nil, "", 0, false},
		{"a *Bad", bad, "line", 3, true},
		{"a *Bad that names nothing", &Bad{}, "", 0, true},
		{"a *Bad without Err", &Bad{Field: "x", N: -1}, "x", -1, true},
		{"the outer one of two", &Bad{Field: "x", N: 1, Err: bad}, "x", 1, true},
		{"wrapped once", wrapped(1, bad), "line", 3, true},
		{"wrapped often", wrapped(50, bad), "line", 3, true},
		{"the outer one of two, wrapped", wrapped(4, &Bad{Field: "x", N: 1, Err: wrapped(4, bad)}), "x", 1, true},
		{"the second of two joined", errors.Join(errors.New("x"), bad), "line", 3, true},
		{"a number", api.ErrConfig, "", 0, false},
		{"a number, wrapped", wrapped(3, api.ErrConfig), "", 0, false},
		{"another error", errors.New("line: 3: form"), "", 0, false},
		{"a nil *Bad", noBad(), "", 0, false},
		{"a nil *Bad, wrapped", wrapped(2, noBad()), "", 0, false},
	} {
		if field, n, ok := Field(c.e); field != c.field || n != c.n || ok != c.ok {
			t.Errorf("%s: %q, %d, %t", c.name, field, n, ok)
		}
	}
}

// P1.4
func TestWhatMayTellsIsNotLost(t *testing.T) {
	for _, c := range []struct {
		policy, capacity int
		field            string
		n                int
	}{{0, 1, "policy", 0}, {6, 0, "policy", 6}, {1, 0, "capacity", 0}, {5, 1048577, "capacity", 1048577}} {
		for _, times := range []int{0, 1, 2, 7, 1000} {
			e := wrapped(times, May(c.policy, c.capacity))
			if !errors.Is(e, api.ErrConfig) || errors.Is(e, api.ErrForm) || Code(e) != api.ErrConfig {
				t.Errorf("%d, %d, wrapped %d times: not config alone", c.policy, c.capacity, times)
			}
			if field, n, ok := Field(e); field != c.field || n != c.n || !ok {
				t.Errorf("%d, %d, wrapped %d times: %q, %d, %t", c.policy, c.capacity, times, field, n, ok)
			}
		}
	}
}

// P1.4: in a *Bad as well, though that one's own field is then the first to be found.
func TestWhatMayTellsIsConfigInAnotherBad(t *testing.T) {
	e := wrapped(2, nested(3, wrapped(2, May(9, 4))))
	if !errors.Is(e, api.ErrConfig) || Code(e) != api.ErrConfig || !strings.Contains(e.Error(), "policy: 9: config") {
		t.Errorf("%v", e)
	}
}

// P1: whatever error is handed in, no call panics.
func TestForeignErrorsThatPanic(t *testing.T) {
	var none *panicking // its calls can't even be reached
	for _, e := range []error{panicking{}, none, &Bad{Field: "x", N: 1, Err: panicking{}}, &Bad{Field: "x", N: 1, Err: none}} {
		if got := Code(e); got != api.ErrForm {
			t.Errorf("%T: %v", e, got)
		}
		field, n, ok := Field(e)
		bad, is := e.(*Bad)
		if ok != is || is && (field != "x" || n != 1) || !is && (field != "" || n != 0) {
			t.Errorf("%T: %q, %d, %t", e, field, n, ok)
		}
		if is && bad.Error() != "x: 1: " {
			t.Errorf("%q", bad.Error())
		}
	}
	if field, n, ok := Field(liar{}); field != "" || n != 0 || ok {
		t.Errorf("a liar: %q, %d, %t", field, n, ok)
	}
}

// P1: the document's limits name 2^16 levels of nesting.
func TestManyLevels(t *testing.T) {
	e := nested(1<<16, api.ErrOp)
	text := e.Error()
	if !strings.HasPrefix(text, "at: 1: at: 2: ") || !strings.HasSuffix(text, "at: 65536: op") || strings.Count(text, "at: ") != 1<<16 {
		t.Errorf("a text of %d bytes", len(text))
	}
	if Code(e) != api.ErrOp || !errors.Is(e, api.ErrOp) {
		t.Error("the number is lost")
	}
	if field, n, ok := Field(e); field != "at" || n != 1 || !ok {
		t.Errorf("%q, %d, %t", field, n, ok)
	}
}
