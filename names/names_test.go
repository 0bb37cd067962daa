package names

import (
	"encoding/hex"
	"math"
	"math/big"
	"slices"
	"strings"
	"testing"

	"sketchstore/api"
)

// The limits and sets of bytes of the chapter, written once more so that a
// wrong one shows.
const (
	nameLimit   = 16
	keyLimit    = 32
	weightLimit = 4294967295
	textLimit   = 65536
	lowers      = "abcdefghijklmnopqrstuvwxyz"
	nameBytes   = lowers + "0123456789-."
	plainBytes  = lowers + "ABCDEFGHIJKLMNOPQRSTUVWXYZ" + "0123456789" + "_-.:/"
)

// eachOne calls f with the string of each byte.
func eachOne(f func(c byte, s string)) {
	for i := range 256 {
		f(byte(i), string([]byte{byte(i)}))
	}
}

func TestEachByteOfAName(t *testing.T) {
	eachOne(func(c byte, s string) {
		first := strings.Contains(lowers, s)
		other := strings.Contains(nameBytes, s)
		for _, x := range []struct {
			s    string
			want bool
		}{
			{s, first},
			{s + "a", first},
			{"a" + s, other},
			{"a" + s + "a", other},
			{"a-1.z" + s, other},
			{strings.Repeat("b", nameLimit-1) + s, other},
			{s + strings.Repeat("b", nameLimit-1), first},
			{strings.Repeat("b", nameLimit) + s, false},
		} {
			if IsName(x.s) != x.want {
				t.Errorf("IsName(%q) = %t", x.s, !x.want)
			}
		}
	})
}

func TestLengthsOfNames(t *testing.T) {
	for n := range 2 * nameLimit {
		for _, s := range []string{strings.Repeat("a", n), strings.Repeat("z9.-", n)[:n]} {
			if want := n >= 1 && n <= nameLimit; IsName(s) != want {
				t.Errorf("IsName(%q) = %t", s, !want)
			}
		}
	}
	// The limit counts bytes, and a letter of two bytes is none of a to z.
	for _, s := range []string{"é", "aé", "ａ", "a\u0301", "a\n", "a ", " a", "a_b", "a:b", "a/b", "aB", "a\x00"} {
		if IsName(s) {
			t.Errorf("%q is a name", s)
		}
	}
}

func TestIsKey(t *testing.T) {
	eachOne(func(c byte, s string) {
		for n := range keyLimit + 4 {
			if want := n >= 1 && n <= keyLimit; IsKey(strings.Repeat(s, n)) != want {
				t.Errorf("IsKey of %d bytes %d = %t", n, c, !want)
			}
		}
	})
	if !IsKey(strings.Repeat("é", keyLimit/2)) || IsKey(strings.Repeat("é", keyLimit/2)+"e") {
		t.Error("the limit does not count bytes")
	}
}

func TestValidateItem(t *testing.T) {
	long := strings.Repeat("k", keyLimit)
	for _, x := range []struct {
		key    string
		weight int
		e      api.Errno
	}{
		{"k", 1, api.OK},
		{"k", 2, api.OK},
		{"k", weightLimit - 1, api.OK},
		{"k", weightLimit, api.OK},
		{long, 1, api.OK},
		{"\x00", 1, api.OK},
		{"\xff #", 1, api.OK},
		{"k", 0, api.ErrRange},
		{"k", -1, api.ErrRange},
		{"k", math.MinInt, api.ErrRange},
		{"k", weightLimit + 1, api.ErrRange},
		{"k", weightLimit + 2, api.ErrRange},
		{"k", math.MaxInt, api.ErrRange},
		{long, 0, api.ErrRange},
		{"", 1, api.ErrKey},
		{long + "k", 1, api.ErrKey},
		{"", 0, api.ErrKey},
		{"", weightLimit + 1, api.ErrKey},
		{long + "k", -1, api.ErrKey},
		{long + "k", math.MaxInt, api.ErrKey},
	} {
		if e := ValidateItem(api.Item{Key: x.key, Weight: x.weight}); e != x.e {
			t.Errorf("ValidateItem(%q, %d) = %d; want %d", x.key, x.weight, e, x.e)
		}
	}
}

// wantKey checks that text is the form of key, in both directions.
func wantKey(t *testing.T, key, text string) {
	t.Helper()
	if s, e := FormatKey(key); s != text || e != api.OK {
		t.Errorf("FormatKey(%q) = %q, %d; want %q", key, s, e, text)
	}
	if s, e := ParseKey(text); s != key || e != api.OK {
		t.Errorf("ParseKey(%q) = %q, %d; want %q", text, s, e, key)
	}
}

// wantNoKey checks that text is not the form of a key.
func wantNoKey(t *testing.T, text string) {
	t.Helper()
	if s, e := ParseKey(text); s != "" || e != api.ErrSyntax {
		t.Errorf("ParseKey(%q) = %q, %d; want ErrSyntax", text, s, e)
	}
}

func TestKeys(t *testing.T) {
	for _, x := range [][2]string{
		{"a", "a"},
		{"Az09_-.:/", "Az09_-.:/"},
		{"/", "/"},
		{"-", "-"},
		{"0", "0"},
		{"a b", "%612062"},
		{" ", "%20"},
		{"%", "%25"},
		{"%61", "%253631"},
		{"a%", "%6125"},
		{"#", "%23"},
		{"\x00", "%00"},
		{"\x00\x0f\xf0\xff", "%000ff0ff"},
		{"\x01\x23\x45\x67\x89\xab\xcd\xef", "%0123456789abcdef"},
		{"é", "%c3a9"},
		{"ab\n", "%61620a"},
		{plainBytes[:keyLimit], plainBytes[:keyLimit]},
		{strings.Repeat("x", keyLimit-1) + "y", strings.Repeat("x", keyLimit-1) + "y"},
		{strings.Repeat("x", keyLimit-1) + "!", "%" + strings.Repeat("78", keyLimit-1) + "21"},
		{"!" + strings.Repeat("x", keyLimit-1), "%21" + strings.Repeat("78", keyLimit-1)},
		{strings.Repeat("\xff", keyLimit), "%" + strings.Repeat("ff", keyLimit)},
	} {
		wantKey(t, x[0], x[1])
	}
}

func TestEachByteOfAKey(t *testing.T) {
	eachOne(func(c byte, s string) {
		plain := strings.Contains(plainBytes, s)
		for _, key := range []string{s, s + "a", "Z" + s, "0" + s + "_", strings.Repeat("x", keyLimit-1) + s} {
			form := "%" + hex.EncodeToString([]byte(key))
			if plain {
				wantKey(t, key, key)
				wantNoKey(t, form)
			} else {
				wantKey(t, key, form)
				wantNoKey(t, key)
			}
		}
	})
}

func TestFormatKeyErrors(t *testing.T) {
	for _, key := range []string{"", strings.Repeat("x", keyLimit+1), strings.Repeat(" ", keyLimit+1), strings.Repeat("x", 10000)} {
		if s, e := FormatKey(key); s != "" || e != api.ErrKey {
			t.Errorf("FormatKey of %d bytes = %q, %d; want ErrKey", len(key), s, e)
		}
	}
}

func TestParseKeyErrors(t *testing.T) {
	for _, s := range []string{
		"",
		"%",
		"%%",
		"%2",
		"%202",
		"%20 ",
		"%20\n",
		"% 20",
		"%61",
		"%6162",
		"%2f",
		"%5f",
		"%0A",
		"%0a0A",
		"%FF",
		"%Ff",
		"%0g",
		"%g0",
		"%0/",
		"%0:",
		"%0`",
		"%-1",
		"%+1",
		"%0x",
		"%00\x00\x00",
		"%00é",
		"%20%20",
		"%%20",
		"a%20",
		"a b",
		" a",
		"a ",
		"a#",
		"a\n",
		"é",
		strings.Repeat("x", keyLimit+1),
		strings.Repeat("x", 100000),
		"%" + strings.Repeat("20", keyLimit) + "2",
		"%" + strings.Repeat("20", keyLimit+1),
		"%" + strings.Repeat("78", keyLimit),
		"%" + strings.Repeat("20", 100000),
	} {
		wantNoKey(t, s)
	}
}

// Each pair of bytes behind the mark is a key only as FormatKey writes it.
func TestEachPairOfDigits(t *testing.T) {
	accepted := 0
	for high := range 256 {
		for low := range 256 {
			text := string([]byte{'%', byte(high), byte(low)})
			key, e := ParseKey(text)
			if e != api.OK {
				wantNoKey(t, text)
				continue
			}
			accepted++
			wantKey(t, key, text)
		}
	}
	if want := 256 - len(plainBytes); accepted != want {
		t.Errorf("%d pairs are accepted; want %d", accepted, want)
	}
}

func TestLines(t *testing.T) {
	for _, x := range []struct {
		s    string
		want []string
	}{
		{"", nil},
		{"\n", []string{""}},
		{"\n\n", []string{"", ""}},
		{"a", []string{"a"}},
		{"a\n", []string{"a"}},
		{"a\n\n", []string{"a", ""}},
		{"\na", []string{"", "a"}},
		{"a\nb", []string{"a", "b"}},
		{"a\n\nb\n", []string{"a", "", "b"}},
		{" ", []string{" "}},
		{"  a  b \n # c\n", []string{"  a  b ", " # c"}},
		{"\n ", []string{"", " "}},
		{"~ !\n", []string{"~ !"}},
	} {
		if l, e := Lines(x.s); e != api.OK || !slices.Equal(l, x.want) {
			t.Errorf("Lines(%q) = %q, %d; want %q", x.s, l, e, x.want)
		}
	}
}

func TestEachByteOfAText(t *testing.T) {
	eachOne(func(c byte, s string) {
		for _, text := range []string{s, s + "a", "a" + s, "a\nb" + s + "c\n"} {
			l, e := Lines(text)
			switch {
			case c == 10 || c >= 32 && c <= 126:
				want := strings.Split(strings.TrimSuffix(text, "\n"), "\n")
				if e != api.OK || !slices.Equal(l, want) {
					t.Errorf("Lines(%q) = %q, %d; want %q", text, l, e, want)
				}
			case e != api.ErrSyntax || len(l) > 0:
				t.Errorf("Lines(%q) = %q, %d; want ErrSyntax", text, l, e)
			}
		}
	})
}

func TestLongTexts(t *testing.T) {
	for _, x := range []struct {
		name string
		s    string
		n    int
		e    api.Errno
	}{
		{"one line", strings.Repeat("x", textLimit), 1, api.OK},
		{"empty lines", strings.Repeat("\n", textLimit), textLimit, api.OK},
		{"lines of one byte", strings.Repeat("x\n", textLimit/2), textLimit / 2, api.OK},
		{"a last bad byte", strings.Repeat("x", textLimit-1) + "\t", 0, api.ErrSyntax},
		{"one byte more", strings.Repeat("x", textLimit+1), 0, api.ErrTooLarge},
		{"one line more", strings.Repeat("\n", textLimit+1), 0, api.ErrTooLarge},
		{"one bad byte more", strings.Repeat("\x7f", textLimit+1), 0, api.ErrTooLarge},
		{"a first bad byte", "\r" + strings.Repeat("x", textLimit), 0, api.ErrTooLarge},
		{"many bytes", strings.Repeat("x", 1<<20), 0, api.ErrTooLarge},
	} {
		l, e := Lines(x.s)
		if len(l) != x.n || e != x.e {
			t.Errorf("%s: %d lines, %d; want %d, %d", x.name, len(l), e, x.n, x.e)
		}
		for _, line := range l {
			if line != strings.Trim(x.s[:textLimit/x.n], "\n") {
				t.Fatalf("%s: a line of %d bytes", x.name, len(line))
			}
		}
	}
}

func TestFields(t *testing.T) {
	for _, x := range []struct {
		line string
		want []string
	}{
		{"", nil},
		{" ", nil},
		{"     ", nil},
		{"a", []string{"a"}},
		{"a b", []string{"a", "b"}},
		{" a", []string{"a"}},
		{"a ", []string{"a"}},
		{"   ab    cd  e   ", []string{"ab", "cd", "e"}},
		{"b a b", []string{"b", "a", "b"}},
		{"#", nil},
		{"#a b", nil},
		{" # a", nil},
		{"a#", []string{"a"}},
		{"a #", []string{"a"}},
		{"a b#c d", []string{"a", "b"}},
		{"a # b # c", []string{"a"}},
		{"a##b", []string{"a"}},
		{"pick 1 # the first\nstep", []string{"pick", "1"}},
		// Only byte 32 separates: no other white space, no end of line.
		{"a\tb", []string{"a\tb"}},
		{"a\nb c", []string{"a\nb", "c"}},
		{"\r \v \f", []string{"\r", "\v", "\f"}},
		{"\x00 \x1f\x21", []string{"\x00", "\x1f!"}},
		{"a\u00a0b\u2003c d", []string{"a\u00a0b\u2003c", "d"}},
		// Bytes that are not UTF-8 stay as they are.
		{"\xff \xe2\x82 \x80#\xff", []string{"\xff", "\xe2\x82", "\x80"}},
	} {
		if l := Fields(x.line); !slices.Equal(l, x.want) {
			t.Errorf("Fields(%q) = %q; want %q", x.line, l, x.want)
		}
	}
}

func TestEachByteOfAField(t *testing.T) {
	eachOne(func(c byte, s string) {
		want := []string{"a" + s + "b", s + "c", "d" + s, s}
		switch c {
		case ' ':
			want = []string{"a", "b", "c", "d"}
		case '#':
			want = []string{"a"}
		}
		line := "a" + s + "b " + s + "c d" + s + " " + s
		if l := Fields(line); !slices.Equal(l, want) {
			t.Errorf("Fields(%q) = %q; want %q", line, l, want)
		}
	})
}

func TestFieldsOfALongLine(t *testing.T) {
	if l := Fields(strings.Repeat("x", 100000)); len(l) != 1 || len(l[0]) != 100000 {
		t.Errorf("a long word becomes %d fields", len(l))
	}
	if l := Fields(strings.Repeat(" ab", 50000) + "#" + strings.Repeat(" c", 50000)); len(l) != 50000 || l[49999] != "ab" {
		t.Errorf("50000 words become %d fields", len(l))
	}
}

func TestNumbers(t *testing.T) {
	for _, x := range []struct {
		s string
		n int
	}{
		{"0", 0},
		{"1", 1},
		{"9", 9},
		{"10", 10},
		{"90", 90},
		{"100", 100},
		{"12345", 12345},
		{"4294967295", 1<<32 - 1},
		{"4294967296", 1 << 32},
		{"99999999999", 99999999999},
		{"100000000000", 100000000000},
		{"123456789012", 123456789012},
		{"999999999999", 999999999999},
		{"-1", -1},
		{"-10", -10},
		{"-987", -987},
		{"-100000000000", -100000000000},
		{"-123456789012", -123456789012},
		{"-999999999999", -999999999999},
	} {
		if n, e := ParseInt(x.s); n != x.n || e != api.OK {
			t.Errorf("ParseInt(%q) = %d, %d; want %d", x.s, n, e, x.n)
		}
		if s := FormatInt(x.n); s != x.s {
			t.Errorf("FormatInt(%d) = %q; want %q", x.n, s, x.s)
		}
	}
	for n := -2000; n <= 2000; n++ {
		if again, e := ParseInt(FormatInt(n)); again != n || e != api.OK {
			t.Errorf("%d comes back as %d, %d", n, again, e)
		}
	}
}

func TestParseIntErrors(t *testing.T) {
	for _, s := range []string{
		"",
		"-",
		"--",
		"--1",
		"-0",
		"00",
		"01",
		"-01",
		"-00",
		"000000000000",
		"012345678901",
		"-012345678901",
		"1000000000000",
		"1234567890123",
		"-1000000000000",
		"0000000000001",
		"9223372036854775807",
		"-9223372036854775808",
		"18446744073709551616",
		strings.Repeat("9", 1000),
		"+1",
		"+0",
		"-+1",
		"1-",
		"1-1",
		"1_000",
		"1,000",
		"1.0",
		"1e3",
		"0x10",
		"0b1",
		" 1",
		"1 ",
		"- 1",
		"1\n",
		"\x001",
		"a",
		"1a",
		"a1",
		"１",
		"٣",
		"−1",
		"\xff",
	} {
		if n, e := ParseInt(s); n != 0 || e != api.ErrSyntax {
			t.Errorf("ParseInt(%q) = %d, %d; want ErrSyntax", s, n, e)
		}
	}
}

func TestEachByteOfANumber(t *testing.T) {
	eachOne(func(c byte, s string) {
		digit := strings.Contains("0123456789", s)
		for _, x := range []struct {
			s    string
			good bool
			n    int
		}{
			{s, digit, int(c) - '0'},
			{"-" + s, digit && c != '0', '0' - int(c)},
			{"7" + s, digit, 70 + int(c) - '0'},
			{"-7" + s, digit, -70 - int(c) + '0'},
			{s + "7", digit && c != '0' || c == '-', 10*(int(c)-'0') + 7},
			{"70000000000" + s, digit, 700000000000 + int(c) - '0'},
			{"7" + s + "0", digit, 700 + 10*(int(c)-'0')},
		} {
			want, wantErr := x.n, api.OK
			if !x.good {
				want, wantErr = 0, api.ErrSyntax
			}
			if x.s == "-7" {
				want = -7
			}
			if n, e := ParseInt(x.s); n != want || e != wantErr {
				t.Errorf("ParseInt(%q) = %d, %d; want %d, %d", x.s, n, e, want, wantErr)
			}
		}
	})
}

// FormatInt writes numbers that ParseInt does not read, too.
func TestFormatIntOfEachSize(t *testing.T) {
	for _, x := range []struct {
		n int
		s string
	}{
		{1000000000000, "1000000000000"},
		{-1000000000000, "-1000000000000"},
		{math.MaxInt, "9223372036854775807"},
		{math.MinInt, "-9223372036854775808"},
		{math.MinInt + 1, "-9223372036854775807"},
	} {
		if s := FormatInt(x.n); s != x.s {
			t.Errorf("FormatInt(%d) = %q; want %q", x.n, s, x.s)
		}
	}
	for i := range 63 {
		for _, n := range []int{1<<i - 1, 1 << i, -1 << i, -1<<i - 1} {
			if s, want := FormatInt(n), big.NewInt(int64(n)).String(); s != want {
				t.Errorf("FormatInt(%d) = %q; want %q", n, s, want)
			}
		}
	}
}

func TestResultsAreFresh(t *testing.T) {
	for name, split := range map[string]func() []string{
		"Lines":  func() []string { l, _ := Lines("a\nb\n"); return l },
		"Fields": func() []string { return Fields("a b") },
	} {
		first := split()
		clear(split())
		if !slices.Equal(first, []string{"a", "b"}) {
			t.Errorf("two results of %s share memory", name)
		}
	}
}
