package semver

import (
	"math"
	"math/rand"
	"slices"
	"strings"
	"testing"

	"indenture/api"
)

// of is the version of a text.
func of(t *testing.T, s string) api.Ver {
	t.Helper()
	v, e := Parse(s)
	if e != api.OK {
		t.Fatal(s, e)
	}
	return v
}

// wrongs are versions that may not be.
var wrongs = []api.Ver{
	{Major: -1}, {Minor: -1}, {Patch: -1}, {Pre: []string{""}}, {Build: []string{""}}, {Pre: []string{"a", "b_"}}, {Build: []string{"a.b"}}, {Pre: []string{"01"}}, {Pre: []string{"00"}}, {Pre: []string{"9223372036854775808"}}, {Pre: []string{"é"}}, {Build: []string{"a+b"}}, {Pre: []string{strings.Repeat("a", 41)}}, {Build: []string{strings.Repeat("a", 41)}}, {Pre: slices.Repeat([]string{"a"}, 9)}, {Build: slices.Repeat([]string{"a"}, 9)},
}

func TestP23_1(t *testing.T) {
	for _, v := range wrongs {
		if Right(v) {
			t.Error(v)
		}
		if s, e := Text(v); s != "" || e != api.ErrArg {
			t.Error(v, s, e)
		}
		if c, e := Cmp(v, api.Ver{}); c != 0 || e != api.ErrArg {
			t.Error(v, c, e)
		}
		if c, e := Cmp(api.Ver{}, v); c != 0 || e != api.ErrArg {
			t.Error(v, c, e)
		}
		for _, class := range []int{0, 1, 9} {
			if n, e := Next(v, class); !Like(n, api.Ver{}) || e != api.ErrArg {
				t.Error(v, n, e)
			}
		}
		if !Like(v, v) || Like(v, api.Ver{Major: 7}) {
			t.Error(v)
		}
	}
	for want, v := range map[string]api.Ver{
		"0.0.0": {}, "1.2.3": {Major: 1, Minor: 2, Patch: 3}, "9223372036854775807.0.9223372036854775807": {Major: math.MaxInt, Patch: math.MaxInt}, "1.0.0-a.0.-.x-1": {Major: 1, Pre: []string{"a", "0", "-", "x-1"}}, "0.1.0+001.--.Z9": {Minor: 1, Build: []string{"001", "--", "Z9"}}, "0.0.1-9223372036854775807+" + strings.Repeat("9", 40): {Patch: 1, Pre: []string{"9223372036854775807"}, Build: []string{strings.Repeat("9", 40)}}, "0.0.0-" + strings.Repeat("a.", 7) + "01a": {Pre: []string{"a", "a", "a", "a", "a", "a", "a", "01a"}},
	} {
		if s, e := Text(v); s != want || e != api.OK || !Right(v) {
			t.Error(want, s, e)
		}
		if got, e := Parse(want); !Like(got, v) || e != api.OK {
			t.Error(want, got, e)
		}
	}
	base := of(t, "1.2.3-a.1+b")
	for _, s := range []string{"0.2.3-a.1+b", "1.0.3-a.1+b", "1.2.0-a.1+b", "1.2.3-a.2+b", "1.2.3-a.1+c", "1.2.3-a.1", "1.2.3+b"} {
		if Like(base, of(t, s)) {
			t.Error(s)
		}
	}
	if !Like(api.Ver{Pre: []string{}}, api.Ver{}) {
		t.Error("nil")
	}
}

// rising are versions, each less than the next one.
var rising = strings.Fields("0.0.0-0 0.0.0 0.0.1-- 0.0.1 0.1.0 1.0.0-0 1.0.0-1 1.0.0-2.9 1.0.0-10 1.0.0-9223372036854775807 1.0.0-- 1.0.0-1a 1.0.0-A 1.0.0-a 1.0.0-a.0 1.0.0-a.1 1.0.0-a.1.0 1.0.0-a.b 1.0.0-a- 1.0.0-alpha 1.0.0-alpha.1 1.0.0-alpha.beta 1.0.0-beta 1.0.0-beta.2 1.0.0-beta.11 1.0.0-rc.1 1.0.0 1.0.1 1.2.0 1.10.0 2.0.0 10.0.0")

func TestP23_1Cmp(t *testing.T) {
	for i, x := range rising {
		for k, y := range rising {
			want := 0
			if i < k {
				want = -1
			} else if i > k {
				want = 1
			}
			for _, b := range []string{"", "+b.1"} {
				if c, e := Cmp(of(t, x+b), of(t, y)); c != want || e != api.OK {
					t.Error(x, y, c, e)
				}
			}
		}
	}
}

func TestP23_2(t *testing.T) {
	nine := "9223372036854775808"
	long := strings.Repeat("a", 41)
	for s, want := range map[string]api.Errno{
		"": api.ErrSyntax, "1": api.ErrSyntax, "1.2": api.ErrSyntax, "1.2.3.4": api.ErrSyntax, "01.2.3": api.ErrSyntax, "1.02.3": api.ErrSyntax, "1.2.03": api.ErrSyntax, "1.2.": api.ErrSyntax, ".2.3": api.ErrSyntax, "v1.2.3": api.ErrSyntax, "1.2.3 ": api.ErrSyntax, "+1.2.3": api.ErrSyntax, "-1.2.3": api.ErrSyntax, "1.2.3-": api.ErrSyntax, "1.2.3+": api.ErrSyntax, "1.2.3-a..b": api.ErrSyntax, "1.2.3-a.": api.ErrSyntax, "1.2.3-01": api.ErrSyntax, "1.2.3-00": api.ErrSyntax, "1.2.3-a.01": api.ErrSyntax, "1.2.3-a_b": api.ErrSyntax, "1.2.3+a+b": api.ErrSyntax, "1.2.3+a.": api.ErrSyntax, "1.2.3-+a": api.ErrSyntax, "1.2.3-é": api.ErrSyntax, "1.2.3\n": api.ErrSyntax, "1.2.a": api.ErrSyntax, "1.2.3a": api.ErrSyntax, "0x1.2.3": api.ErrSyntax, "1_0.2.3": api.ErrSyntax,
		"1.2.3-" + strings.Repeat("a.", 8) + "b": api.ErrMany, "1.2.3+" + strings.Repeat("a.", 8) + "b": api.ErrMany, "1.2.3-" + long: api.ErrMany, "1.2.3+" + long: api.ErrMany, nine + ".2.3-" + long: api.ErrMany, "1.2.3-" + long + ".": api.ErrSyntax, "1.2.3-" + strings.Repeat("9", 41): api.ErrMany, "01.2.3-" + long: api.ErrSyntax, "1.2.3-0" + strings.Repeat("1", 41): api.ErrSyntax,
		nine + ".0.0": api.ErrOver, "0." + nine + ".0": api.ErrOver, "0.0." + nine: api.ErrOver, "0.0.0-" + nine: api.ErrOver, "0.0.0-" + strings.Repeat("9", 40): api.ErrOver, strings.Repeat("9", 5000) + ".0.0": api.ErrOver, "0.0.0-a." + nine + "+b": api.ErrOver,
		"0.0.0-" + nine + "a": api.OK, "0.0.0+" + nine: api.OK, "1.2.3--": api.OK, "1.2.3-a-b+c-d": api.OK, "1.2.3+a-b": api.OK, "0.0.0-0": api.OK, "1.2.3+00": api.OK,
	} {
		v, e := Parse(s)
		if e != want || e != api.OK && !Like(v, api.Ver{}) || e == api.OK && !Right(v) {
			t.Error(s, v, e)
		}
	}
	if v := of(t, "1.2.3+a-b"); len(v.Pre) != 0 || !slices.Equal(v.Build, []string{"a-b"}) {
		t.Error(v)
	}
}

func TestP23_3(t *testing.T) {
	most := "9223372036854775807"
	for _, c := range []struct {
		v    string
		next [4]string
	}{
		{"1.2.3", [4]string{"1.2.4", "1.3.0", "2.0.0", "2.0.0"}},
		{"1.2.3+b", [4]string{"1.2.4", "1.3.0", "2.0.0", "2.0.0"}},
		{"1.3.0-rc.1", [4]string{"1.3.0", "1.3.0", "2.0.0", "2.0.0"}},
		{"1.3.1-rc.1", [4]string{"1.3.1", "1.4.0", "2.0.0", "2.0.0"}},
		{"2.0.0-rc.1+b", [4]string{"2.0.0", "2.0.0", "2.0.0", "2.0.0"}},
		{"2.0.0", [4]string{"2.0.1", "2.1.0", "3.0.0", "3.0.0"}},
		{"0.4.1", [4]string{"0.4.2", "0.5.0", "0.5.0", "0.5.0"}},
		{"0.4.0-a", [4]string{"0.4.0", "0.4.0", "0.4.0", "0.4.0"}},
		{"0.4.1-a", [4]string{"0.4.1", "0.5.0", "0.5.0", "0.5.0"}},
		{"0.0.0", [4]string{"0.0.1", "0.1.0", "0.1.0", "0.1.0"}},
		{"0.0.0-a", [4]string{"0.0.0", "0.0.0", "0.0.0", "0.0.0"}},
		{"1.2." + most, [4]string{"", "1.3.0", "2.0.0", "2.0.0"}},
		{"1.2." + most + "-a", [4]string{"1.2." + most, "1.3.0", "2.0.0", "2.0.0"}},
		{"1." + most + ".3", [4]string{"1." + most + ".4", "", "2.0.0", "2.0.0"}},
		{"1." + most + ".0-a", [4]string{"1." + most + ".0", "1." + most + ".0", "2.0.0", "2.0.0"}},
		{"0." + most + ".0", [4]string{"0." + most + ".1", "", "", ""}},
		{most + ".0.0", [4]string{most + ".0.1", most + ".1.0", "", ""}},
		{most + ".0.0-a", [4]string{most + ".0.0", most + ".0.0", most + ".0.0", most + ".0.0"}},
		{most + ".0.1-a", [4]string{most + ".0.1", most + ".1.0", "", ""}},
	} {
		for class, want := range c.next {
			v, e := Next(of(t, c.v), class)
			s, _ := Text(v)
			if want == "" && (e != api.ErrOver || !Like(v, api.Ver{})) || want != "" && (s != want || e != api.OK) {
				t.Error(c.v, class, s, e)
			}
		}
		for _, class := range []int{-1, 4, 1 << 40} {
			if v, e := Next(of(t, c.v), class); e != api.ErrArg || !Like(v, api.Ver{}) {
				t.Error(class, v, e)
			}
		}
	}
}

func TestP23_4(t *testing.T) {
	r := rand.New(rand.NewSource(1))
	words := []string{"0", "1", "10", "a", "-", "rc", "1a", "A-b"}
	some := func() []string {
		var l []string
		for range r.Intn(4) {
			l = append(l, words[r.Intn(len(words))])
		}
		return l
	}
	for range 3000 {
		v := api.Ver{Major: r.Intn(3), Minor: r.Intn(3), Patch: r.Intn(3), Pre: some(), Build: some()}
		s, e := Text(v)
		w, e1 := Parse(s)
		if e != api.OK || e1 != api.OK || !Like(v, w) {
			t.Fatal(v, s, w)
		}
		last := api.Ver{}
		for class := range 4 {
			n, e := Next(v, class)
			c, _ := Cmp(n, v)
			more, _ := Cmp(n, last)
			if e != api.OK || c != 1 || len(n.Pre)+len(n.Build) > 0 || more < 0 {
				t.Fatal(v, class, n)
			}
			// Between there is none such.
			for m := range n.Major*100 + n.Minor*10 + n.Patch {
				x := api.Ver{Major: m / 100, Minor: m / 10 % 10, Patch: m % 10}
				of := []bool{x.Major == v.Major && x.Minor == v.Minor, x.Major == v.Major && x.Patch == 0, x.Minor+x.Patch == 0, x.Minor+x.Patch == 0}[class]
				if v.Major == 0 && class > 0 {
					of = x.Major == 0 && x.Patch == 0
				}
				if c, _ := Cmp(x, v); of && c > 0 {
					t.Fatal(v, class, n, x)
				}
			}
			last = n
		}
	}
}
