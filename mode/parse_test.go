package mode

import (
	"math/rand"
	"slices"
	"strconv"
	"strings"
	"testing"

	"nearhand/api"
)

// parsed holds what Parse answers of those words.
func parsed(t *testing.T, words []string, want api.Mode, err api.Errno) {
	t.Helper()
	m, e := Parse(words...)
	if e != err || !same(m, want) {
		s := strconv.Quote(strings.Join(words, "|"))
		t.Errorf("%s: %s, %d, not %s, %d", s[:min(len(s), 300)], said(m), e, said(want), err)
	}
}

// P13.1: words, and their mode.
func TestParse(t *testing.T) {
	for _, c := range []struct {
		words string
		want  api.Mode
	}{
		{"ON", plain},
		{"on", plain},
		{"On", plain},
		{"oN", plain},
		{"ON OPTIN", api.Mode{On: true, OptIn: true}},
		{"ON OptIn optin OPTIN", api.Mode{On: true, OptIn: true}},
		{"ON optout", api.Mode{On: true, OptOut: true}},
		{"ON NoLoop", api.Mode{On: true, NoLoop: true}},
		{"ON noloop optout redirect 12", api.Mode{On: true, OptOut: true, NoLoop: true, Redirect: 12}},
		{"ON redirect 12 noloop optin", api.Mode{On: true, OptIn: true, NoLoop: true, Redirect: 12}},
		{"ON BCAST", with(bcast, "")},
		{"ON bcast BCAST", with(bcast, "")},
		{"ON BCAST PREFIX a", with(bcast, "a")},
		{"ON PREFIX a BCAST", with(bcast, "a")},
		{"ON PREFIX c BCAST PREFIX a prefix b", with(bcast, "a", "b", "c")},
		{"ON BCAST PREFIX a PREFIX A", with(bcast, "A", "a")},
		{"ON BCAST PREFIX BCAST PREFIX on", with(bcast, "BCAST", "on")},
		{"ON BCAST PREFIX PREFIX", with(bcast, "PREFIX")},
		{"ON BCAST PREFIX REDIRECT PREFIX 7", with(bcast, "7", "REDIRECT")},
		{"ON BCAST PREFIX aé PREFIX a\xff", with(bcast, "aé", "a\xff")},
		{"ON BCAST PREFIX 10 PREFIX 9", with(bcast, "10", "9")},
		{"ON BCAST NOLOOP REDIRECT 1 PREFIX a", api.Mode{On: true, Bcast: true, NoLoop: true, Redirect: 1, Prefixes: []string{"a"}}},
		{"OFF", api.Mode{}},
		{"off", api.Mode{}},
		{"oFf", api.Mode{}},
	} {
		parsed(t, strings.Split(c.words, " "), c.want, api.OK)
	}
}

// P13.1: a prefix may be any text; an empty one alone may be said, too.
func TestParsePrefixes(t *testing.T) {
	long := strings.Repeat("k", 512)
	for _, c := range []struct {
		prefixes []string
		ok       bool
	}{
		{[]string{""}, true},
		{[]string{"", ""}, false},
		{[]string{"", "a"}, false},
		{[]string{"a", ""}, false},
		{[]string{"a b", "\r\n", "\x00"}, true},
		{[]string{long}, true},
		{[]string{long + "k"}, false},
		{[]string{"a", "a"}, false},
		{[]string{"a", "b", "a"}, false},
		{[]string{"ab", "b", "a"}, false},
		{[]string{"b", "a", "ab"}, false},
		{[]string{"ab", "aa", "ac"}, true},
		{some(32), true},
		{some(33), false},
		{some(1000), false},
	} {
		for _, turned := range []bool{false, true} {
			words := []string{"on", "bcast"}
			prefixes := slices.Clone(c.prefixes)
			if turned {
				slices.Reverse(prefixes)
			}
			for _, p := range prefixes {
				words = append(words, "prefix", p)
			}
			slices.Sort(prefixes)
			want, err := with(bcast, prefixes...), api.OK
			if !c.ok {
				want, err = api.Mode{}, api.ErrModes
			}
			parsed(t, words, want, err)
			words[0] = "off"
			parsed(t, words, api.Mode{}, api.OK)
		}
	}
}

// P13.1: OFF is a zero Mode, whatever else is said, if it is said so.
func TestParseOff(t *testing.T) {
	for _, s := range []string{"off bcast", "off optin optout bcast noloop", "OFF REDIRECT 7", "off redirect 1000000000 redirect 0", "off prefix a", "off prefix a prefix a", "off prefix on prefix off"} {
		parsed(t, strings.Split(s, " "), api.Mode{}, api.OK)
	}
	parsed(t, []string{"off", "prefix", strings.Repeat("k", 513)}, api.Mode{}, api.OK)
}

// P13.1: words that aren't so, and what is wrong with them first.
func TestParseSyntax(t *testing.T) {
	parsed(t, nil, api.Mode{}, api.ErrSyntax)
	for _, s := range []string{
		"", " ", "yes", "1", "o", "onn", "on\x00", "offf", "of", "o n", "ＯＮ", "on\xff", "oﬀ", "bcast", "redirect", "redirect 5", "prefix on",
		"bcast on", "on on", "on off", "off on", "off off", "on ", "on  bcast", "off ", "on yes", "off yes",
		"on bcas", "on bcastt", "on bcaſt", "on optın", "on optİn", "on opt-in", "on no-loop", "on noloop\x00", "on \xffbcast", "on nolo0p",
		"on redirect", "off redirect", "on prefix", "off prefix", "on bcast prefix", "on bcast prefix a prefix", "on redirect 5 redirect",
		"on redirect ", "on redirect x", "on redirect -1", "on redirect +1", "on redirect 01", "on redirect 1000000001", "on redirect 10000000000", "on redirect -0", "on redirect 1.0", "on redirect 1e3", "on redirect 0x1", "on redirect noloop", "on redirect prefix a",
		"on redirect 9223372036854775807", "on redirect -9223372036854775808", "on redirect 9223372036854775808", "on redirect 18446744073709551617", "on redirect 4294967296", "off redirect -1", "off redirect 1000000001",
		"on redirect x redirect 5", "on redirect 5 redirect x", "on redirect 5 5", "on prefix a b", "on bcast a", "on 5",
		"on optin optout x", "on x optin optout", "on bcast optin redirect", "on prefix a prefix a bcast prefix",
		"on bcast prefix a yes", "off optin x",
	} {
		parsed(t, strings.Split(s, " "), api.Mode{}, api.ErrSyntax)
	}
}

// P13.1: the last REDIRECT counts, from 0 to 1000000000.
func TestParseRedirect(t *testing.T) {
	for s, to := range map[string]int{
		"on redirect 0": 0, "on redirect 1": 1, "on REDIRECT 999999999": 999999999, "on ReDirect 1000000000": 1000000000,
		"on redirect 5 redirect 6": 6, "on redirect 6 noloop redirect 5": 5, "on redirect 5 redirect 0": 0,
	} {
		m, e := Parse(strings.Split(s, " ")...)
		if e != api.OK || m.Redirect != to || !m.On {
			t.Error(s, said(m), e)
		}
	}
}

// P13.1: what doesn't go together; among it the document's example.
func TestParseModes(t *testing.T) {
	for _, s := range []string{
		"on optin optout", "on optout noloop optin", "on bcast optin", "on optin bcast", "on bcast optout", "on bcast optin optout prefix a",
		"on prefix a", "on optin prefix a", "on noloop prefix b prefix a", "on bcast prefix a prefix a", "on bcast prefix a prefix ab", "on bcast prefix ab prefix b prefix a", "on prefix ",
	} {
		parsed(t, strings.Split(s, " "), api.Mode{}, api.ErrModes)
	}
}

// anyCase is a word, each letter of which is great or small by chance.
func (c chance) anyCase(s string) string {
	b := []byte(s)
	for i := range b {
		if c.Intn(2) > 0 {
			b[i] ^= 'a' - 'A'
		}
	}
	return string(b)
}

// words are a mode's by chance, seldom one that can't be so, and what the
// document says of them.
func (c chance) words() ([]string, api.Mode, api.Errno) {
	off := c.Intn(5) == 0
	words := []string{c.anyCase("on")}
	if off {
		words[0] = c.anyCase("off")
	}
	m := api.Mode{On: true}
	wrong := false
	for range c.Intn(6) {
		switch n := c.Intn(13); {
		case n < 4:
			w := []string{"bcast", "optin", "optout", "noloop"}[n]
			words = append(words, c.anyCase(w))
			m.Bcast, m.OptIn, m.OptOut, m.NoLoop = m.Bcast || n == 0, m.OptIn || n == 1, m.OptOut || n == 2, m.NoLoop || n == 3
		case n < 6:
			m.Redirect = c.Intn(1000000001)
			words = append(words, c.anyCase("redirect"), strconv.Itoa(m.Redirect))
		case n < 12:
			p := append(c.prefixes(1), "x"+strconv.Itoa(n))[0]
			m.Prefixes = append(m.Prefixes, p)
			m.Bcast = true
			words = append(words, c.anyCase("prefix"), p, "bcast")
		default:
			words = append(words, []string{"x", "", "on", "off", "5"}[c.Intn(5)])
			wrong = true
		}
	}
	if wrong {
		return words, api.Mode{}, api.ErrSyntax
	}
	if off {
		return words, api.Mode{}, api.OK
	}
	if m.Bcast && m.Prefixes == nil {
		m.Prefixes = []string{""}
	}
	slices.Sort(m.Prefixes)
	if !right(m) {
		return words, api.Mode{}, api.ErrModes
	}
	return words, m, api.OK
}

// P13.1: words by chance, against what the document says; what is handed in
// isn't changed, and what is answered is new memory.
func TestParseByChance(t *testing.T) {
	c := chance{rand.New(rand.NewSource(17))}
	count := map[api.Errno]int{}
	for range 20000 {
		words, want, err := c.words()
		given := roomy(words...)
		m, e := Parse(given...)
		if e != err || !same(m, want) {
			t.Fatalf("%q: %s, %d, not %s, %d", words, said(m), e, said(want), err)
		}
		if !slices.Equal(given, words) || !slices.Equal(given[:cap(given)][len(words):len(words)+2], []string{"spare", "room"}) || sharing(given, m.Prefixes) {
			t.Fatalf("%q: changed, or shared", words)
		}
		if again, _ := Parse(given...); !same(m, again) || sharing(m.Prefixes, again.Prefixes) {
			t.Fatalf("%q: two answers", words)
		}
		if !Right(m) {
			t.Fatalf("%q: not RIGHT", words)
		}
		count[e]++
	}
	if count[api.OK] < 2000 || count[api.ErrModes] < 2000 || count[api.ErrSyntax] < 2000 {
		t.Error("too few of one kind", count)
	}
}

// P1: any words, however long, and however many.
func TestParseAnyWords(t *testing.T) {
	huge := strings.Repeat("n", 1<<20)
	parsed(t, []string{huge}, api.Mode{}, api.ErrSyntax)
	parsed(t, []string{"on", huge}, api.Mode{}, api.ErrSyntax)
	parsed(t, []string{"on", "redirect", strings.Repeat("9", 1<<20)}, api.Mode{}, api.ErrSyntax)
	parsed(t, []string{"on", "bcast", "prefix", huge}, api.Mode{}, api.ErrModes)
	many := []string{"on"}
	for i := range 100000 {
		many = append(many, "redirect", strconv.Itoa(i), "noloop")
	}
	parsed(t, many, api.Mode{On: true, NoLoop: true, Redirect: 99999}, api.OK)
	many = append(many, "bcast")
	for range 100000 {
		many = append(many, "prefix", "a")
	}
	parsed(t, many, api.Mode{}, api.ErrModes)
	parsed(t, append(many, "prefix"), api.Mode{}, api.ErrSyntax)
}
