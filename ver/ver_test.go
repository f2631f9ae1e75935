package ver

import (
	"bytes"
	"math"
	"regexp"
	"strconv"
	"strings"
	"testing"

	"demotic/api"
)

// rows hands each row of at most n pieces to do.
func rows(pieces []string, n int, do func(string)) {
	var from func(row string, left int)
	from = func(row string, left int) {
		do(row)
		if left > 0 {
			for _, p := range pieces {
				from(row+p, left-1)
			}
		}
	}
	from("", n)
}

func TestMinor(t *testing.T) {
	for n := range 100 {
		s := "1." + strconv.Itoa(n)
		for _, behind := range []string{"", ".0", ".1", ".00", ".1234567890", "rc1", "rc0", "rc01", "beta2", "beta00", "." + strings.Repeat("9", 1000)} {
			if got, e := Minor(s + behind); e != api.OK || got != n {
				t.Errorf("P4.1: Minor(%q) = %d, %d", s+behind, got, e)
			}
		}
	}
}

func TestNoMinor(t *testing.T) {
	for _, s := range []string{
		"", "1", "1.", "2.1", "0.1", "1.021", "1.00", "1.01", "1.100", "1.999", "1." + strings.Repeat("1", 100), "1.+2", "1.-1", "1.-0", "1. 2",
		"1.2.", "1.2rc", "1.2beta", "1.2.rc1", "1.2x", "1.2.x", "1.2.1x", "1.2.1.1", "1.2.1rc1", "1.2rc1.1", "1.2rc1beta1", "1.2rcx", "1.2rc1x", "1.2betax",
		"1.2RC1", "1.2Beta1", "1.2b1", "1.2r1", "1.2alpha1", "1.2-rc1", "1.2rc-1", "1.2rc+1", "1.2.-1", "1.2..1", "1..2", "1.rc1", "1.beta1", "1..1", "1.2,1",
		"go1.2", "v1.2", "11.2", "01.2", " 1.2", "1.2 ", "1.2\n", "1.2\r", "1.2rc1 ", "1 .2", "1.2 rc1", "1,2", "1\u06f2", "1.\u0662", "1.2.\u0661", "1.\uff12", "1.2\x00", "\xff", "1.\xff", "1.2\xff", "\ufeff1.2", "1.0x1", "1.1_0",
	} {
		if got, e := Minor(s); e != api.ErrVer || got != 0 {
			t.Errorf("P4.1: Minor(%q) = %d, %d", s, got, e)
		}
	}
}

// TestMinorOfEachByte: nothing but figures stands for a figure.
func TestMinorOfEachByte(t *testing.T) {
	for c := range 256 {
		figure := strings.IndexByte("0123456789", byte(c))
		for ahead, minor := range map[string]int{"1.": figure, "1.4": 40 + figure, "1.7.": 7, "1.7.3": 7, "1.8rc": 8, "1.8rc3": 8, "1.9beta": 9} {
			s := ahead + string([]byte{byte(c)})
			got, e := Minor(s)
			if ok := figure >= 0; ok != (e == api.OK) || ok && got != minor || !ok && (e != api.ErrVer || got != 0) {
				t.Errorf("P4.1: Minor(%q) = %d, %d", s, got, e)
			}
		}
	}
}

// TestMinorByRule holds short rows of signs against the rule of a version.
func TestMinorByRule(t *testing.T) {
	version := regexp.MustCompile(`^1\.(0|[1-9][0-9]?)(|\.[0-9]+|(rc|beta)[0-9]+)$`)
	rows([]string{"0", "1", "9", ".", "rc", "beta", "r", "x", "-"}, 5, func(row string) {
		for _, s := range []string{row, "1." + row} {
			got, e := Minor(s)
			l := version.FindStringSubmatch(s)
			switch {
			case l == nil && (e != api.ErrVer || got != 0), l != nil && (e != api.OK || strconv.Itoa(got) != l[1]):
				t.Errorf("P4.1: Minor(%q) = %d, %d", s, got, e)
			}
		}
	})
}

func TestText(t *testing.T) {
	for n := range 100 {
		if got := Text(n); got != "1."+strconv.Itoa(n) {
			t.Errorf("P4.1: Text(%d) = %q", n, got)
		}
	}
	for _, n := range []int{-1, -17, 100, 101, 117, 1000, math.MaxInt, math.MinInt} {
		if got := Text(n); got != "" {
			t.Errorf("P4.1: Text(%d) = %q", n, got)
		}
	}
}

func TestPath(t *testing.T) {
	for s, want := range map[string]bool{
		"a": true, "Z9": true, "a/b": true, "a/b/c": true, "x-1/_.y": true, ".": true, "../..": true, "-": true, "_": true, "1": true, "0/9": true, "main": true, "example.com/A-b_c": true,
		strings.Repeat("a", 200): true, strings.Repeat("a/", 99) + "ab": true,
		"": false, "/": false, "/a": false, "a/": false, "a//b": false, "//": false, "a/b/": false,
		strings.Repeat("a", 201): false, strings.Repeat("a/", 100) + "a": false, strings.Repeat("a/", 100): false,
		"a b": false, " a": false, "a ": false, "a\n": false, "a\t": false, "a\r": false, "a\\b": false, "a+b": false, "a~": false, "a@v1": false, "\"a\"": false, "a,b": false, "a:b": false, "a`": false, "a[": false, "a{": false,
		"ä": false, "a/\u0661": false, "\uff41": false, "a\x00": false, "\xff": false, "a\xff": false, "\ufeffa": false, "a/\ufffd": false,
	} {
		if got := Path(s); got != want {
			t.Errorf("P4.1: Path(%q) = %v", s, got)
		}
	}
}

func TestPathByRule(t *testing.T) {
	path := regexp.MustCompile(`^[a-zA-Z0-9_.-]+(/[a-zA-Z0-9_.-]+)*$`)
	rows([]string{"a", "Z", "0", "_", "-", ".", "/", " ", "ä", "+"}, 5, func(s string) {
		if got := Path(s); got != path.MatchString(s) {
			t.Errorf("P4.1: Path(%q) = %v", s, got)
		}
	})
	for c := range 256 {
		s := string([]byte{byte(c)})
		if got := Path("a" + s + "b"); got != (path.MatchString(s) || s == "/") {
			t.Errorf("P4.1: Path(%q) = %v", "a"+s+"b", got)
		}
	}
}

func TestRead(t *testing.T) {
	for s, want := range map[string]Mod{
		"module a":                             {"a", 16},
		"module a\n":                           {"a", 16},
		"\n\n \t\r\nmodule a\n\n":              {"a", 16},
		"module a/b\ngo 1.22.1 // x":           {"a/b", 22},
		"go 1.0\nmodule a":                     {"a", 0},
		"module a\ngo 1.99":                    {"a", 99},
		"module a\ngo 1.21rc2":                 {"a", 21},
		"module a\ngo 1.9beta1\n":              {"a", 9},
		" \t\rmodule \t\r a\r\n\tgo\t1.18\r\n": {"a", 18},
		"module\ra\ngo\r1.18":                  {"a", 18},
		"// x\nmodule a // y\n//":              {"a", 16},
		"module a//b":                          {"a", 16}, // what is behind // is a note
		"module a// b // c\n go 1.5//":         {"a", 5},
		"//go 1.2\nmodule a\n// module b":      {"a", 16},
		"module a\ntoolchain go1.24":           {"a", 16},
		"module a\ntoolchain x\ntoolchain y":   {"a", 16},
		"toolchain +/\"\xff\x00ä\nmodule a":    {"a", 16}, // any word
		"module module\ngo 1.3":                {"module", 3},
		"module go\ntoolchain go":              {"go", 16},
		"module a\n//\xff\x00":                 {"a", 16},
		"module 1.2":                           {"1.2", 16},
		"module " + strings.Repeat("a", 200):   {strings.Repeat("a", 200), 16},
	} {
		if got, e := Read([]byte(s)); e != api.OK || got != want {
			t.Errorf("P4.2: Read(%q) = %v, %d, want %v", s, got, e, want)
		}
	}
}

func TestReadNone(t *testing.T) {
	for _, s := range []string{
		"", "\n", "// module a", "go 1.2", "toolchain x", "go 1.2\ntoolchain x",
		"module", "module //a", "module \t", "module /", "module a/", "module /a", "module a b", "module a / b", "module \"a\"", "module ä", "module a+b", "module " + strings.Repeat("a", 201),
		"module a\nmodule b", "module a\nmodule a", "module a\ngo 1.2\nmodule a", "module a module b",
		"module a\ngo", "module a\ngo //1.2", "module a\ngo x", "module a\ngo 1", "module a\ngo 1.100", "module a\ngo 1.021", "module a\ngo go1.2", "module a\ngo 1.2 1.3", "module a\ngo 1.2 x", "module a\ngo1.2", "module a go 1.2",
		"module a\ngo 1.2\ngo 1.2", "module a\ngo 1.2\ngo 1.3", "go 1.2\nmodule a\ngo 1.2",
		"module a\ntoolchain", "module a\ntoolchain // x", "module a\ntoolchain x y",
		"module a\nrequire x", "module a\nrequire x v1", "module a\nx", "module a\n)", "module a\nexclude x v1", "Module a", "modulea", "module a\nGo 1.2", "module a\nGO 1.2", "module a\nToolchain x",
		"module a /* x */", "/* x */\nmodule a", "module a # x", "# x\nmodule a", "module a\n/ x", "module a;go 1.2",
		"module\va", "module\fa", "module a\v", "module\u00a0a", "module a\u0085", "\ufeffmodule a", "module a\x00", "\x00module a", "module a\xff", "\xff", "module \xff", "\xffmodule a",
		"module\na", "go\n1.2\nmodule a",
	} {
		if got, e := Read([]byte(s)); e != api.ErrMod || got != (Mod{}) {
			t.Errorf("P4.2: Read(%q) = %v, %d", s, got, e)
		}
	}
}

func TestReadLong(t *testing.T) {
	for _, c := range []struct {
		name, s string
		m       Mod
		e       api.Errno
	}{
		{"as long as may be", "module a//" + strings.Repeat("x", api.MaxSource-10), Mod{"a", 16}, api.OK},
		{"too long", "module a//" + strings.Repeat("x", api.MaxSource-9), Mod{}, api.ErrLong},
		{"too long, of empty lines", "module a" + strings.Repeat("\n", api.MaxSource), Mod{}, api.ErrLong},
		{"too long, and none", strings.Repeat("x", api.MaxSource+1), Mod{}, api.ErrLong},
		{"as long as may be, and none", strings.Repeat("x", api.MaxSource), Mod{}, api.ErrMod},
		{"empty lines", strings.Repeat("\n", api.MaxSource-8) + "module a", Mod{"a", 16}, api.OK},
	} {
		if got, e := Read([]byte(c.s)); e != c.e || got != c.m {
			t.Errorf("P4.2: %s: %v, %d", c.name, got, e)
		}
	}
}

// TestReadByRule holds rows of lines against the lines that a go.mod has.
func TestReadByRule(t *testing.T) {
	lines := []string{"", "module a/b", "\tmodule  c //", "go 1.7", " go 1.8.1\r", "toolchain x", "// go 1.2", "go", "module a b"}
	rows(joinable(lines), 4, func(s string) {
		paths, minors, none := []string{}, []int{16}, false
		for _, line := range strings.Split(s, "\n") {
			switch line {
			case "module a/b":
				paths = append(paths, "a/b")
			case "\tmodule  c //":
				paths = append(paths, "c")
			case "go 1.7":
				minors = append(minors, 7)
			case " go 1.8.1\r":
				minors = append(minors, 8)
			case "go", "module a b":
				none = true
			}
		}
		got, e := Read([]byte(s))
		if none || len(paths) != 1 || len(minors) > 2 {
			if e != api.ErrMod || got != (Mod{}) {
				t.Errorf("P4.2: Read(%q) = %v, %d", s, got, e)
			}
			return
		}
		if want := (Mod{paths[0], minors[len(minors)-1]}); e != api.OK || got != want {
			t.Errorf("P4.2: Read(%q) = %v, %d, want %v", s, got, e, want)
		}
	})
}

// joinable tells the lines, each with its end.
func joinable(lines []string) []string {
	var l []string
	for _, line := range lines {
		l = append(l, line+"\n")
	}
	return l
}

func TestWrite(t *testing.T) {
	for _, c := range []struct {
		m    Mod
		want string
	}{
		{Mod{"a", 17}, "module a\n\ngo 1.17\n"},
		{Mod{"a/b.c", 0}, "module a/b.c\n\ngo 1.0\n"},
		{Mod{"-", 99}, "module -\n\ngo 1.99\n"},
		{Mod{strings.Repeat("x", 200), 1}, "module " + strings.Repeat("x", 200) + "\n\ngo 1.1\n"},
		{Mod{}, ""},
		{Mod{"", 17}, ""},
		{Mod{"a", -1}, ""},
		{Mod{"a", 100}, ""},
		{Mod{"a", math.MinInt}, ""},
		{Mod{"a b", 17}, ""},
		{Mod{"a//b", 17}, ""},
		{Mod{"a/", 17}, ""},
		{Mod{"a\n", 17}, ""},
		{Mod{"\xff", 17}, ""},
		{Mod{strings.Repeat("x", 201), 1}, ""},
	} {
		if got := string(Write(c.m)); got != c.want {
			t.Errorf("P4.2: Write(%v) = %q, want %q", c.m, got, c.want)
		}
	}
}

func TestReadUndoesWrite(t *testing.T) {
	for _, path := range []string{"a", "a/b", "x-1/_.y", "module", "go", ".", strings.Repeat("a/", 99) + "ab"} {
		for minor := range 100 {
			m := Mod{path, minor}
			if got, e := Read(Write(m)); e != api.OK || got != m {
				t.Errorf("P4.3: Read(Write(%v)) = %v, %d", m, got, e)
			}
			if got, e := Minor(Text(minor)); e != api.OK || got != minor {
				t.Errorf("P4.3: Minor(Text(%d)) = %d, %d", minor, got, e)
			}
		}
	}
}

func TestNothingIsChanged(t *testing.T) {
	whole := []byte("module a/b // c\r\ngo 1.22 toolchain spare room")
	was := bytes.Clone(whole)
	b := whole[:len("module a/b // c\r\ngo 1.22")]
	m, e := Read(b)
	if e != api.OK || m != (Mod{"a/b", 22}) || !bytes.Equal(whole, was) {
		t.Errorf("R4: what is handed in was changed: %v, %d", m, e)
	}
	clear(whole)
	if m.Path != "a/b" {
		t.Errorf("R4: what is handed in was kept: %v", m)
	}
	first := Write(m)
	clear(first)
	if string(Write(m)) != "module a/b\n\ngo 1.22\n" {
		t.Error("R5: another answer")
	}
	if again, e := Read(was[:len(b)]); e != api.OK || again != m {
		t.Errorf("R5: another answer: %v, %d", again, e)
	}
}

func FuzzRead(f *testing.F) {
	for _, s := range []string{"module a/b\ngo 1.22.1 // x", "module a//b", "go 1.2\r\ntoolchain x", "\xff\x00"} {
		f.Add([]byte(s))
	}
	f.Fuzz(func(t *testing.T, b []byte) {
		m, e := Read(b)
		if e != api.OK {
			if e != api.ErrMod && e != api.ErrLong || m != (Mod{}) {
				t.Errorf("P4.2: %v, %d", m, e)
			}
			return
		}
		if again, e := Read(Write(m)); e != api.OK || again != m {
			t.Errorf("P4.3: %v, then %v, %d", m, again, e)
		}
	})
}
