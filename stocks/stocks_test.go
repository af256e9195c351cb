package stocks

import (
	"strings"
	"testing"

	"hoist/api"
	"hoist/needs"
	"hoist/versions"
)

func fittingText(t *testing.T, stock string, need string) string {
	t.Helper()
	s, e := Parse(stock)
	if e != api.OK {
		t.Fatalf("Parse(%q) is %d", stock, e)
	}
	n, ok := needs.Parse(need)
	if !ok {
		t.Fatalf("%q is no need", need)
	}
	var texts []string
	for _, entry := range s.Fitting(n) {
		texts = append(texts, entry.Name+"@"+entry.Version.Text()+":"+needs.Text(entry.Needs))
	}
	return strings.Join(texts, ";")
}

func TestFitting(t *testing.T) {
	stock := "b@1.0.0;a@2.0.0:c*,b*;a@1.0.0:a=2.0.0;ab@1.0.0"
	for _, c := range []struct{ need, want string }{
		{"a*", "a@2.0.0:b*,c*;a@1.0.0:a=2.0.0"}, {"a^1.0.0", "a@1.0.0:a=2.0.0"}, {"a=3.0.0", ""}, {"b*", "b@1.0.0:"}, {"ab*", "ab@1.0.0:"}, {"c*", ""},
	} {
		if got := fittingText(t, stock, c.need); got != c.want {
			t.Errorf("for %q there are %q, want %q", c.need, got, c.want)
		}
	}
	if got := fittingText(t, "", "a*"); got != "" {
		t.Errorf("the empty stock has %q", got)
	}
}

func TestFind(t *testing.T) {
	s, e := Parse("b@1.0.0;a@2.0.0:c*,b*;a@1.0.0:a=2.0.0;ab@1.0.0")
	if e != api.OK {
		t.Fatalf("Parse is %d", e)
	}
	for _, c := range []struct{ name, version, needs string }{
		{"a", "1.0.0", "a=2.0.0"}, {"a", "2.0.0", "b*,c*"}, {"b", "1.0.0", ""}, {"ab", "1.0.0", ""},
	} {
		v, _ := versions.Parse(c.version)
		entry, found := s.Find(c.name, v)
		if !found || entry.Name != c.name || entry.Version != v || needs.Text(entry.Needs) != c.needs {
			t.Errorf("for %s@%s there is %v, %v", c.name, c.version, entry, found)
		}
	}
	for _, c := range []struct{ name, version string }{{"a", "3.0.0"}, {"b", "2.0.0"}, {"ab", "2.0.0"}, {"c", "1.0.0"}, {"", "1.0.0"}} {
		v, _ := versions.Parse(c.version)
		entry, found := s.Find(c.name, v)
		if found || entry.Name != "" {
			t.Errorf("for %s@%s there is %v, %v", c.name, c.version, entry, found)
		}
	}
}

func TestParseErrors(t *testing.T) {
	for _, c := range []struct {
		text string
		want api.Errno
	}{
		{"", api.OK}, {"a@1.0.0", api.OK},
		{strings.Repeat(" ", api.MaxStock+1), api.ErrLong}, {strings.Repeat(" ", api.MaxStock), api.ErrText},
		{";", api.ErrText}, {"a@1.0.0:", api.ErrText}, {"a:b*@1.0.0", api.ErrText}, {"a@1.0.0;a@1.0.0;a", api.ErrText},
		{"a@1.0.0;a@1.0.0", api.ErrTwice}, {"a@1.0.0:b*,b*", api.ErrTwice},
	} {
		if s, e := Parse(c.text); e != c.want || e != api.OK && s.entries != nil {
			t.Errorf("Parse(%.20q) = %v, %d, want %d", c.text, s, e, c.want)
		}
	}
}
