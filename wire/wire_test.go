package wire

import (
	"bytes"
	"encoding/binary"
	"hash/adler32"
	"math"
	"slices"
	"strings"
	"testing"

	"sketchstore/api"
)

// The limits of the chapter, written once more so that a wrong one shows.
const (
	greatest  = 1 << 62
	textLimit = 65536
	bodyLimit = 1048576
)

// uints are numbers at the edges of P3.1 with their encodings.
var uints = []struct {
	n int
	b []byte
}{
	{0, []byte{0}},
	{1, []byte{1}},
	{127, []byte{127}},
	{128, []byte{128}},
	{247, []byte{247}},
	{248, []byte{248, 248}},
	{255, []byte{248, 255}},
	{256, []byte{249, 1, 0}},
	{0x1234, []byte{249, 0x12, 0x34}},
	{1<<16 - 1, []byte{249, 255, 255}},
	{1 << 16, []byte{250, 1, 0, 0}},
	{1<<24 - 1, []byte{250, 255, 255, 255}},
	{1 << 24, []byte{251, 1, 0, 0, 0}},
	{1<<32 - 1, []byte{251, 255, 255, 255, 255}},
	{1 << 32, []byte{252, 1, 0, 0, 0, 0}},
	{1<<40 - 1, []byte{252, 255, 255, 255, 255, 255}},
	{1 << 40, []byte{253, 1, 0, 0, 0, 0, 0}},
	{1<<48 - 1, []byte{253, 255, 255, 255, 255, 255, 255}},
	{1 << 48, []byte{254, 1, 0, 0, 0, 0, 0, 0}},
	{1<<56 - 1, []byte{254, 255, 255, 255, 255, 255, 255, 255}},
	{1 << 56, []byte{255, 1, 0, 0, 0, 0, 0, 0, 0}},
	{0x0123456789abcdef, []byte{255, 0x01, 0x23, 0x45, 0x67, 0x89, 0xab, 0xcd, 0xef}},
	{greatest - 1, []byte{255, 63, 255, 255, 255, 255, 255, 255, 255}},
	{greatest, []byte{255, 64, 0, 0, 0, 0, 0, 0, 0}},
}

// followed returns b with other bytes behind it.
func followed(b []byte, more ...byte) []byte {
	return slices.Concat(b, more)
}

// guarded returns a copy of b whose spare capacity is filled with a mark, and
// a check that neither the copy nor its spare capacity has changed.
func guarded(b []byte) (arg []byte, untouched func() bool) {
	whole := followed(b, bytes.Repeat([]byte{0xa5}, 32)...)
	before := slices.Clone(whole)
	return whole[:len(b)], func() bool { return bytes.Equal(whole, before) }
}

func TestEncodeUint(t *testing.T) {
	for _, x := range uints {
		if b, e := EncodeUint(x.n); e != api.OK || !bytes.Equal(b, x.b) {
			t.Errorf("EncodeUint(%d) = %v, %d; want %v", x.n, b, e, x.b)
		}
	}
	for _, n := range []int{-1, -247, -248, math.MinInt, greatest + 1, math.MaxInt} {
		if b, e := EncodeUint(n); e != api.ErrRange || len(b) > 0 {
			t.Errorf("EncodeUint(%d) = %v, %d; want ErrRange", n, b, e)
		}
	}
}

func TestDecodeUint(t *testing.T) {
	for _, x := range uints {
		for _, more := range [][]byte{nil, {0}, {255, 255, 255, 255, 255, 255, 255, 255}} {
			b := followed(x.b, more...)
			if n, used, e := DecodeUint(b); n != x.n || used != len(x.b) || e != api.OK {
				t.Errorf("DecodeUint(%v) = %d, %d, %d; want %d, %d", b, n, used, e, x.n, len(x.b))
			}
		}
	}
}

func TestDecodeUintErrors(t *testing.T) {
	for _, x := range []struct {
		name string
		b    []byte
		e    api.Errno
	}{
		{"nil", nil, api.ErrCut},
		{"no byte of one", []byte{248}, api.ErrCut},
		{"no byte of eight", []byte{255}, api.ErrCut},
		{"one byte of two", []byte{249, 1}, api.ErrCut},
		{"seven bytes of eight", []byte{255, 1, 2, 3, 4, 5, 6, 7}, api.ErrCut},
		{"cut before a zero is seen", []byte{249, 0}, api.ErrCut},
		{"cut before too much is seen", []byte{255, 255, 255, 255, 255, 255, 255, 255}, api.ErrCut},
		{"zero", []byte{248, 0}, api.ErrForm},
		{"one", []byte{248, 1}, api.ErrForm},
		{"the last number of one byte", []byte{248, 247}, api.ErrForm},
		{"a zero before 248", []byte{249, 0, 248}, api.ErrForm},
		{"a zero before 255", []byte{249, 0, 255}, api.ErrForm},
		{"only zeros", []byte{255, 0, 0, 0, 0, 0, 0, 0, 0}, api.ErrForm},
		{"a zero before seven bytes", []byte{255, 0, 255, 255, 255, 255, 255, 255, 255}, api.ErrForm},
		{"above 2^62", []byte{255, 64, 0, 0, 0, 0, 0, 0, 1}, api.ErrForm},
		{"2^63 - 1", []byte{255, 127, 255, 255, 255, 255, 255, 255, 255}, api.ErrForm},
		{"2^63", []byte{255, 128, 0, 0, 0, 0, 0, 0, 0}, api.ErrForm},
		{"2^63 + 300", []byte{255, 128, 0, 0, 0, 0, 0, 1, 44}, api.ErrForm},
		{"2^64 - 1", []byte{255, 255, 255, 255, 255, 255, 255, 255, 255}, api.ErrForm},
	} {
		if n, used, e := DecodeUint(x.b); n != 0 || used != 0 || e != x.e {
			t.Errorf("%s: %d, %d, %d; want error %d", x.name, n, used, e, x.e)
		}
	}
	for _, x := range uints {
		for k := range x.b {
			if n, used, e := DecodeUint(x.b[:k]); n != 0 || used != 0 || e != api.ErrCut {
				t.Errorf("DecodeUint(%v) = %d, %d, %d; want ErrCut", x.b[:k], n, used, e)
			}
		}
	}
}

// Each number has one encoding, so what decodes must encode to the same bytes.
func TestDecodeUintAcceptsOneEncoding(t *testing.T) {
	accepted := 0
	for first := range 256 {
		for second := range 256 {
			for _, rest := range [][]byte{{0, 0, 0, 0, 0, 0, 0}, {0, 0, 0, 0, 0, 0, 1}, {247, 248, 255, 0, 1, 2, 3}} {
				b := followed([]byte{byte(first), byte(second)}, rest...)
				n, used, e := DecodeUint(b)
				if e != api.OK {
					continue
				}
				accepted++
				if again, e := EncodeUint(n); e != api.OK || !bytes.Equal(again, b[:used]) {
					t.Errorf("%v decodes to %d, which encodes to %v, %d", b, n, again, e)
				}
			}
		}
	}
	// 248 first bytes are numbers; 248 takes 248 to 255; 249 to 254 take 1 to
	// 255; 255 takes 1 to 63, and 64 only before zeros.
	if want := 248*256*3 + 8*3 + 6*255*3 + 63*3 + 1; accepted != want {
		t.Errorf("%d encodings are accepted; want %d", accepted, want)
	}
}

func TestWords(t *testing.T) {
	for _, x := range []struct {
		x uint64
		b []byte
	}{
		{0, []byte{0, 0, 0, 0, 0, 0, 0, 0}},
		{1, []byte{0, 0, 0, 0, 0, 0, 0, 1}},
		{256, []byte{0, 0, 0, 0, 0, 0, 1, 0}},
		{0x0123456789abcdef, []byte{0x01, 0x23, 0x45, 0x67, 0x89, 0xab, 0xcd, 0xef}},
		{0xfedcba9876543210, []byte{0xfe, 0xdc, 0xba, 0x98, 0x76, 0x54, 0x32, 0x10}},
		{1 << 63, []byte{128, 0, 0, 0, 0, 0, 0, 0}},
		{math.MaxUint64, []byte{255, 255, 255, 255, 255, 255, 255, 255}},
	} {
		if b := EncodeWord(x.x); !bytes.Equal(b, x.b) {
			t.Errorf("EncodeWord(%#x) = %v; want %v", x.x, b, x.b)
		}
		for _, b := range [][]byte{x.b, followed(x.b, 7), followed(x.b, x.b...)} {
			if word, used, e := DecodeWord(b); word != x.x || used != 8 || e != api.OK {
				t.Errorf("DecodeWord(%v) = %#x, %d, %d; want %#x", b, word, used, e, x.x)
			}
		}
		for k := range x.b {
			if word, used, e := DecodeWord(x.b[:k]); word != 0 || used != 0 || e != api.ErrCut {
				t.Errorf("DecodeWord(%v) = %#x, %d, %d; want ErrCut", x.b[:k], word, used, e)
			}
		}
	}
	if word, used, e := DecodeWord(nil); word != 0 || used != 0 || e != api.ErrCut {
		t.Errorf("DecodeWord(nil) = %#x, %d, %d; want ErrCut", word, used, e)
	}
}

func TestEachBitOfAWord(t *testing.T) {
	for i := range 64 {
		x := uint64(1) << i
		if b := EncodeWord(x); !bytes.Equal(b, binary.BigEndian.AppendUint64(nil, x)) {
			t.Errorf("EncodeWord(1 << %d) = %v", i, b)
		}
		if word, _, _ := DecodeWord(EncodeWord(x)); word != x {
			t.Errorf("1 << %d comes back as %#x", i, word)
		}
	}
}

func TestTexts(t *testing.T) {
	for _, x := range []struct {
		s      string
		length []byte
	}{
		{"", []byte{0}},
		{"a", []byte{1}},
		{"ab", []byte{2}},
		{"\x00\xff\xf8\xe2\x82", []byte{5}},
		{"é€", []byte{5}},
		{strings.Repeat("x", 247), []byte{247}},
		{strings.Repeat("x", 248), []byte{248, 248}},
		{strings.Repeat("x", 256), []byte{249, 1, 0}},
		{strings.Repeat("xy", textLimit/2-1) + "z", []byte{249, 255, 255}},
		{strings.Repeat("xy", textLimit/2), []byte{250, 1, 0, 0}},
	} {
		want := followed(x.length, []byte(x.s)...)
		b, e := EncodeText(x.s)
		if e != api.OK || !bytes.Equal(b, want) {
			t.Errorf("%d bytes become %d, error %d; want %d", len(x.s), len(b), e, len(want))
		}
		for _, b := range [][]byte{want, followed(want, 'c', 'd')} {
			if s, used, e := DecodeText(b); s != x.s || used != len(want) || e != api.OK {
				t.Errorf("%d bytes come back as %d, %d, %d", len(x.s), len(s), used, e)
			}
		}
		for _, k := range []int{0, len(x.length) - 1, len(want) - 1} {
			if s, used, e := DecodeText(want[:k]); s != "" || used != 0 || e != api.ErrCut {
				t.Errorf("%d of %d bytes: %q, %d, %d; want ErrCut", k, len(want), s, used, e)
			}
		}
	}
}

func TestTextErrors(t *testing.T) {
	for _, n := range []int{textLimit + 1, textLimit + 2, 2 * textLimit} {
		if b, e := EncodeText(strings.Repeat("x", n)); e != api.ErrTooLarge || len(b) > 0 {
			t.Errorf("EncodeText of %d bytes: %d bytes, %d; want ErrTooLarge", n, len(b), e)
		}
	}
	for _, x := range []struct {
		name string
		b    []byte
		e    api.Errno
	}{
		{"nil", nil, api.ErrCut},
		{"a cut length", []byte{249, 1}, api.ErrCut},
		{"a length above MaxData that is cut", []byte{250, 1, 0}, api.ErrCut},
		{"a length that is no encoding", []byte{248, 2, 'a', 'b'}, api.ErrForm},
		{"a length above 2^62", []byte{255, 64, 0, 0, 0, 0, 0, 0, 1}, api.ErrForm},
		{"a length of 2^62", []byte{255, 64, 0, 0, 0, 0, 0, 0, 0}, api.ErrForm},
		{"a length above MaxData", []byte{250, 1, 0, 1}, api.ErrForm},
		{"a length above MaxData with all its bytes", followed([]byte{250, 1, 0, 1}, make([]byte, textLimit+1)...), api.ErrForm},
		{"no bytes", []byte{2}, api.ErrCut},
		{"fewer bytes", []byte{2, 'a'}, api.ErrCut},
		{"MaxData without bytes", []byte{250, 1, 0, 0}, api.ErrCut},
		{"the bytes of the length do not count", []byte{249, 1, 0, 'a', 'b'}, api.ErrCut},
		{"two bytes less than the length", followed([]byte{249, 1, 0}, make([]byte, 254)...), api.ErrCut},
	} {
		if s, used, e := DecodeText(x.b); s != "" || used != 0 || e != x.e {
			t.Errorf("%s: %q, %d, %d; want error %d", x.name, s, used, e, x.e)
		}
	}
}

func TestChecksum(t *testing.T) {
	for _, x := range []struct {
		name string
		b    []byte
		sum  uint32
	}{
		{"nothing", nil, 1},
		{"a zero", []byte{0}, 0x00010001},
		{"255", []byte{255}, 0x01000100},
		{"abc", []byte("abc"), 0x024d0127},
		{"cba", []byte("cba"), 0x02510127},
		{"Wikipedia", []byte("Wikipedia"), 0x11e60398},
		{"u is 65520", followed(bytes.Repeat([]byte{255}, 256), 239), 0x07fffff0},
		{"u becomes 0", followed(bytes.Repeat([]byte{255}, 256), 240), 0x08000000},
		{"u wraps around", bytes.Repeat([]byte{255}, 257), 0x080f000f},
		{"v is 65520", make([]byte, 65520), 0xfff00001},
		{"v becomes 0", make([]byte, 65521), 0x00000001},
		{"2^20 times 255", bytes.Repeat([]byte{255}, bodyLimit), 0x8e88ef11},
	} {
		if sum := Checksum(x.b); sum != x.sum {
			t.Errorf("%s: %#x; want %#x", x.name, sum, x.sum)
		}
	}
}

// The sums of P3.4 are those of Adler-32.
func TestChecksumOfManyLengths(t *testing.T) {
	b := make([]byte, 12000)
	for i := range b {
		b[i] = byte(i*i>>3 + 151*i)
	}
	for n := 0; n <= len(b); n += 1 + n/16 {
		for _, part := range [][]byte{b[:n], b[len(b)-n:]} {
			if sum, want := Checksum(part), adler32.Checksum(part); sum != want {
				t.Errorf("%d bytes: %#x; want %#x", n, sum, want)
			}
		}
	}
}

func TestFrames(t *testing.T) {
	for _, x := range []struct {
		tag   byte
		body  []byte
		frame []byte
	}{
		{0, nil, []byte{0, 0, 0, 2, 0, 1}},
		{0, []byte{}, []byte{0, 0, 0, 2, 0, 1}},
		{255, []byte{0}, []byte{255, 1, 0, 3, 2, 1, 1}},
		{255, []byte{255, 255}, []byte{255, 2, 255, 255, 7, 3, 3, 0}},
		{5, []byte("xyz"), []byte{5, 3, 'x', 'y', 'z', 2, 254, 1, 116}},
	} {
		if f, e := Frame(x.tag, x.body); e != api.OK || !bytes.Equal(f, x.frame) {
			t.Errorf("Frame(%d, %v) = %v, %d; want %v", x.tag, x.body, f, e, x.frame)
		}
		for _, b := range [][]byte{x.frame, followed(x.frame, 0), followed(x.frame, x.frame...)} {
			tag, body, used, e := Unframe(b)
			if tag != x.tag || !bytes.Equal(body, x.body) || used != len(x.frame) || e != api.OK {
				t.Errorf("Unframe(%v) = %d, %v, %d, %d", b, tag, body, used, e)
			}
		}
		for k := range x.frame {
			wantError(t, "a cut frame", x.frame[:k], api.ErrCut)
		}
	}
}

// slowFrame is P3.5 with the encodings of the standard library.
func slowFrame(tag byte, length, body []byte) []byte {
	f := slices.Concat([]byte{tag}, length, body)
	return binary.BigEndian.AppendUint32(f, adler32.Checksum(f))
}

func TestFramesOfManyLengths(t *testing.T) {
	for _, x := range []struct {
		n      int
		length []byte
	}{
		{247, []byte{247}},
		{248, []byte{248, 248}},
		{255, []byte{248, 255}},
		{256, []byte{249, 1, 0}},
		{65535, []byte{249, 255, 255}},
		{65536, []byte{250, 1, 0, 0}},
		{bodyLimit - 1, []byte{250, 15, 255, 255}},
		{bodyLimit, []byte{250, 16, 0, 0}},
	} {
		body := bytes.Repeat([]byte{200, 7, 31}, x.n/3+1)[:x.n]
		want := slowFrame(9, x.length, body)
		if f, e := Frame(9, body); e != api.OK || !bytes.Equal(f, want) {
			t.Errorf("Frame of %d bytes: %d bytes, %d", x.n, len(f), e)
		}
		tag, again, used, e := Unframe(want)
		if tag != 9 || !bytes.Equal(again, body) || used != len(want) || e != api.OK {
			t.Errorf("Unframe of %d bytes: %d, %d bytes, %d, %d", x.n, tag, len(again), used, e)
		}
		for k := len(want) - 5; k < len(want); k++ {
			wantError(t, "a cut frame", want[:k], api.ErrCut)
		}
	}
}

func wantError(t *testing.T, name string, b []byte, want api.Errno) {
	t.Helper()
	if tag, body, used, e := Unframe(b); tag != 0 || len(body) > 0 || used != 0 || e != want {
		t.Errorf("%s: %d, %v, %d, %d; want error %d", name, tag, body, used, e, want)
	}
}

func TestFrameErrors(t *testing.T) {
	for _, n := range []int{bodyLimit + 1, 2 * bodyLimit} {
		if f, e := Frame(1, make([]byte, n)); e != api.ErrTooLarge || len(f) > 0 {
			t.Errorf("Frame of %d bytes: %d bytes, %d; want ErrTooLarge", n, len(f), e)
		}
	}
	above := slowFrame(5, []byte{250, 16, 0, 1}, make([]byte, bodyLimit+1))
	for _, x := range []struct {
		name string
		b    []byte
		e    api.Errno
	}{
		{"nil", nil, api.ErrCut},
		{"only a tag", []byte{5}, api.ErrCut},
		{"a tag that looks like a length", []byte{255}, api.ErrCut},
		{"a cut length", []byte{5, 250, 16, 0}, api.ErrCut},
		{"a length that is no encoding", []byte{5, 248, 3, 'x', 'y', 'z', 0, 0, 0, 0}, api.ErrForm},
		{"a long form of a good frame", slowFrame(5, []byte{249, 0, 3}, []byte("xyz")), api.ErrForm},
		{"a length above 2^62", []byte{5, 255, 64, 0, 0, 0, 0, 0, 0, 1}, api.ErrForm},
		{"a length of 2^62", []byte{5, 255, 64, 0, 0, 0, 0, 0, 0, 0}, api.ErrForm},
		{"a length above 2^20", []byte{5, 250, 16, 0, 1}, api.ErrForm},
		{"a whole frame above 2^20", above, api.ErrForm},
		{"2^20 without a body", []byte{5, 250, 16, 0, 0}, api.ErrCut},
		{"no checksum", []byte{5, 3, 'x', 'y', 'z'}, api.ErrCut},
		{"a wrong checksum that is cut", []byte{5, 3, 'x', 'y', 'z', 9, 9, 9}, api.ErrCut},
		{"a checksum of zeros", []byte{5, 3, 'x', 'y', 'z', 0, 0, 0, 0}, api.ErrChecksum},
		{"a checksum in the other order", []byte{5, 3, 'x', 'y', 'z', 116, 1, 254, 2}, api.ErrChecksum},
		{"the checksum of the body alone", binary.BigEndian.AppendUint32([]byte{5, 3, 'x', 'y', 'z'}, adler32.Checksum([]byte("xyz"))), api.ErrChecksum},
	} {
		wantError(t, x.name, x.b, x.e)
	}
}

func TestUnframeNoticesEachBit(t *testing.T) {
	good := slowFrame(77, []byte{248, 250}, bytes.Repeat([]byte{3, 200}, 125))
	for i := range good {
		if i == 1 || i == 2 {
			continue // the length decides where the frame ends
		}
		for bit := range 8 {
			b := slices.Clone(good)
			b[i] ^= 1 << bit
			wantError(t, "a changed bit", b, api.ErrChecksum)
		}
	}
	shorter := slices.Clone(good)
	shorter[2]--
	wantError(t, "a shorter body", shorter, api.ErrChecksum)
	longer := slices.Clone(good)
	longer[2]++
	wantError(t, "a longer body", longer, api.ErrCut)
	wantError(t, "a longer body and more bytes", followed(longer, 1), api.ErrChecksum)
}

func TestArgumentsAreNotModified(t *testing.T) {
	number := []byte{249, 1, 0}
	text := []byte{3, 'a', 'b', 'c'}
	frame := []byte{5, 3, 'x', 'y', 'z', 2, 254, 1, 116}
	for _, x := range []struct {
		name string
		b    []byte
		call func(b []byte)
	}{
		{"DecodeUint", number, func(b []byte) { DecodeUint(b) }},
		{"DecodeWord", make([]byte, 8), func(b []byte) { DecodeWord(b) }},
		{"DecodeText", text, func(b []byte) { DecodeText(b) }},
		{"Checksum", text, func(b []byte) { Checksum(b) }},
		{"Frame", text, func(b []byte) { Frame(1, b) }},
		{"Unframe", frame, func(b []byte) { Unframe(b) }},
	} {
		arg, untouched := guarded(x.b)
		if x.call(arg); !untouched() {
			t.Errorf("%s changes its argument", x.name)
		}
	}
}

// The spare capacity of an argument is not a part of the encoding.
func TestSpareCapacityIsNotRead(t *testing.T) {
	number := []byte{249, 1, 0}
	if _, _, e := DecodeUint(number[:2]); e != api.ErrCut {
		t.Errorf("DecodeUint: %d; want ErrCut", e)
	}
	if _, _, e := DecodeWord(make([]byte, 7, 8)); e != api.ErrCut {
		t.Errorf("DecodeWord: %d; want ErrCut", e)
	}
	text := []byte{3, 'a', 'b', 'c'}
	if _, _, e := DecodeText(text[:3]); e != api.ErrCut {
		t.Errorf("DecodeText: %d; want ErrCut", e)
	}
}

func TestResultsAreFresh(t *testing.T) {
	text := []byte{3, 'a', 'b', 'c'}
	s, _, _ := DecodeText(text)
	clear(text)
	if s != "abc" {
		t.Errorf("the text changes to %q with the argument", s)
	}
	frame := []byte{5, 3, 'x', 'y', 'z', 2, 254, 1, 116}
	_, body, _, _ := Unframe(frame)
	clear(frame)
	if string(body) != "xyz" {
		t.Errorf("the body changes to %q with the argument", body)
	}
	framed, _ := Frame(5, body)
	clear(body)
	if string(framed[2:5]) != "xyz" {
		t.Errorf("the frame changes to %v with the argument", framed)
	}
	for name, encode := range map[string]func() []byte{
		"EncodeUint": func() []byte { b, _ := EncodeUint(300); return b },
		"EncodeWord": func() []byte { return EncodeWord(300) },
		"EncodeText": func() []byte { b, _ := EncodeText("abc"); return b },
		"Frame":      func() []byte { b, _ := Frame(1, []byte("abc")); return b },
	} {
		first := encode()
		want := slices.Clone(first)
		clear(encode())
		if !bytes.Equal(first, want) {
			t.Errorf("two results of %s share memory", name)
		}
	}
}
