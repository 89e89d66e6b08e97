package frame_test

import (
	"bytes"
	"errors"
	"slices"
	"testing"

	"crossbuck/api"
	"crossbuck/crc"
	"crossbuck/fault"
	"crossbuck/frame"
)

// mixed is n bytes that look like no rule, the same ones each time.
func mixed(n int) []byte {
	b := make([]byte, n)
	x := uint32(n) + 815
	for i := range b {
		x = x*1664525 + 1013904223
		b[i] = byte(x >> 24)
	}
	return b
}

// known is a telegram with its bytes, whose sums were reckoned elsewhere.
type known struct {
	f     api.Frame
	bytes string
}

func allKnown() []known {
	return []known{
		{api.Frame{Chan: 1, Seq: 2, Data: []byte{9}}, "\x01\x02\x01\x09\x3e\x0c"},
		{api.Frame{}, "\x00\x00\x00\xcc\x9c"},
		{api.Frame{Chan: 15, Seq: 255}, "\x0f\xff\x00\xe3\x52"},
		{api.Frame{Data: make([]byte, 16)}, "\x00\x00\x10" + string(make([]byte, 16)) + "\xad\x60"},
		{api.Frame{Chan: 15, Seq: 255, Data: []byte("\xf0\xf1\xf2\xf3\xf4\xf5\xf6\xf7\xf8\xf9\xfa\xfb\xfc\xfd\xfe\xff")},
			"\x0f\xff\x10\xf0\xf1\xf2\xf3\xf4\xf5\xf6\xf7\xf8\xf9\xfa\xfb\xfc\xfd\xfe\xff\x8c\x3a"},
		{api.Frame{Chan: 8, Seq: 128, Data: []byte{255, 0}}, "\x08\x80\x02\xff\x00\xa3\x86"},
		{api.Frame{Chan: 7, Seq: 6, Data: []byte("abc")}, "\x07\x06\x03abc\x0d\xde"},
	}
}

// telegrams are those of allKnown, and others with data of each length.
func telegrams() []api.Frame {
	var all []api.Frame
	for _, k := range allKnown() {
		all = append(all, k.f)
	}
	for n := range api.MaxData + 1 {
		all = append(all,
			api.Frame{Chan: n % 16, Seq: n * 15, Data: mixed(n)},
			api.Frame{Chan: 15 - n%16, Seq: 255 - n, Data: bytes.Repeat([]byte{0xff}, n)},
			api.Frame{Chan: 0, Seq: 0, Data: make([]byte, n)})
	}
	return all
}

// same tells whether two telegrams are the same, where no data are nil and empty alike.
func same(a, b api.Frame) bool {
	return a.Chan == b.Chan && a.Seq == b.Seq && bytes.Equal(a.Data, b.Data)
}

func isZero(f api.Frame) bool {
	return f.Chan == 0 && f.Seq == 0 && len(f.Data) == 0
}

// encoded is the bytes of f, which must be there.
func encoded(t *testing.T, f api.Frame) []byte {
	t.Helper()
	b, err := frame.Encode(f)
	if err != nil {
		t.Fatalf("Encode of %v: %v", f, err)
	}
	return b
}

// isError tells whether err is an error of layer 1 of that number.
func isError(err error, e api.Errno) bool {
	return err != nil && fault.Code(err) == e && len(fault.Path(err)) > 0 && errors.Is(err, e)
}

// refusesFrame holds that Encode refuses f, and answers nothing beside the error.
func refusesFrame(t *testing.T, f api.Frame) {
	t.Helper()
	if b, err := frame.Encode(f); !isError(err, api.ErrArg) || len(b) != 0 {
		t.Errorf("Encode of channel %d, number %d, %d bytes: % x, %v", f.Chan, f.Seq, len(f.Data), b, err)
	}
}

// refuses holds that Decode refuses b with that number, and answers nothing beside the error.
func refuses(t *testing.T, name string, b []byte, e api.Errno) {
	t.Helper()
	if f, err := frame.Decode(b); !isError(err, e) || !isZero(f) {
		t.Errorf("%s: Decode of % x: %v, %v, not %v", name, b[:min(len(b), 40)], f, err, e)
	}
}

// decodes holds that b is the telegram f.
func decodes(t *testing.T, b []byte, f api.Frame) {
	t.Helper()
	if got, err := frame.Decode(b); err != nil || !same(got, f) {
		t.Errorf("Decode of % x: %v, %v, not %v", b, got, err, f)
	}
}

// P6.1, P6.2: bytes that are known, the document's example among them.
func TestKnown(t *testing.T) {
	for _, k := range allKnown() {
		if got := encoded(t, k.f); string(got) != k.bytes {
			t.Errorf("Encode of %v: % x, not % x", k.f, got, k.bytes)
		}
		decodes(t, []byte(k.bytes), k.f)
	}
}

// P6.1, P6.2, P6.4: every channel, number and length: its bytes are the Seal of what the document tells, and are decoded as they were.
func TestAllHeads(t *testing.T) {
	for ch := range api.MaxChan + 1 {
		for seq := range 256 {
			for n := range api.MaxData + 1 {
				data := mixed(n)
				f := api.Frame{Chan: ch, Seq: seq, Data: data}
				want := crc.Seal(append([]byte{byte(ch), byte(seq), byte(n)}, data...))
				if got := encoded(t, f); !bytes.Equal(got, want) {
					t.Fatalf("Encode of %v: % x, not % x", f, got, want)
				}
				decodes(t, want, f)
			}
		}
	}
}

// P6.1, P6.2, P6.4: data of every byte at every place.
func TestAllData(t *testing.T) {
	for n := 1; n <= api.MaxData; n++ {
		for at := range n {
			for x := range 256 {
				data := mixed(n)
				data[at] = byte(x)
				f := api.Frame{Chan: 5, Seq: 200, Data: data}
				b := encoded(t, f)
				if want := crc.Seal(append([]byte{5, 200, byte(n)}, data...)); !bytes.Equal(b, want) {
					t.Fatalf("Encode of %v: % x, not % x", f, b, want)
				}
				decodes(t, b, f)
			}
		}
	}
}

// P6.1, W5: no data are nil and empty alike.
func TestNoData(t *testing.T) {
	for _, ch := range []int{0, 1, 15} {
		for _, seq := range []int{0, 1, 255} {
			want := crc.Seal([]byte{byte(ch), byte(seq), 0})
			for _, data := range [][]byte{nil, {}, make([]byte, 0, 30), mixed(17)[:0]} {
				f := api.Frame{Chan: ch, Seq: seq, Data: data}
				if got := encoded(t, f); !bytes.Equal(got, want) {
					t.Errorf("Encode of %v: % x, not % x", f, got, want)
				}
			}
			decodes(t, want, api.Frame{Chan: ch, Seq: seq})
			refusesFrame(t, api.Frame{Chan: ch - 16, Seq: seq})
			refusesFrame(t, api.Frame{Chan: ch, Seq: seq + 256, Data: []byte{}})
		}
	}
}

// beyond are numbers below 0, and those above most; those that look fine as a byte, or as four, too.
func beyond(most int) []int {
	all := []int{most + 1, most + 2, 256, 257, 258, 271, 272, 511, 512, 65536, 1 << 31, 1 << 32, 1<<32 + 1, 1 << 62, api.MaxInt - 255, api.MaxInt - 1, api.MaxInt}
	return append(all, -1, -2, -15, -16, -128, -240, -241, -254, -255, -256, -257, -65536, -1<<31, -1<<32, -1<<32+1, api.MinInt, api.MinInt+1, api.MinInt+15)
}

// fine are numbers from 0 to most.
func fine(most int) []int {
	return []int{0, 1, most / 2, most - 1, most}
}

// lengths are those of data that are too long; those that look fine as a byte, or as two, too.
func lengths() []int {
	return []int{17, 18, 19, 31, 32, 255, 256, 257, 271, 272, 273, 512, 65536, 65537, 65552, 1 << 20}
}

// P6.1: a channel, a number, or data beyond the limits is refused, whatever the others are.
func TestEncodeRefuses(t *testing.T) {
	for _, n := range []int{0, 1, 15, 16} {
		for _, seq := range fine(255) {
			for _, ch := range beyond(15) {
				refusesFrame(t, api.Frame{Chan: ch, Seq: seq, Data: mixed(n)})
			}
		}
		for _, ch := range fine(15) {
			for _, seq := range beyond(255) {
				refusesFrame(t, api.Frame{Chan: ch, Seq: seq, Data: mixed(n)})
			}
		}
	}
	for _, n := range lengths() {
		for _, ch := range fine(15) {
			for _, seq := range fine(255) {
				refusesFrame(t, api.Frame{Chan: ch, Seq: seq, Data: make([]byte, n)})
			}
		}
	}
}

// P6.1: several things beyond the limits are refused likewise.
func TestEncodeRefusesSeveral(t *testing.T) {
	for _, ch := range beyond(15) {
		for _, seq := range beyond(255) {
			for _, n := range []int{0, 16, 17, 256, 272} {
				refusesFrame(t, api.Frame{Chan: ch, Seq: seq, Data: mixed(n)})
			}
		}
	}
}

// P6.2: of what Open tells none: nothing, a byte, two bytes that are no sum of none, and three.
func TestDecodeShort(t *testing.T) {
	refuses(t, "nil", nil, api.ErrSum)
	refuses(t, "no bytes", []byte{}, api.ErrSum)
	for x := range 256 {
		refuses(t, "a byte", []byte{byte(x)}, api.ErrSum)
	}
	for x := range 0xffff {
		refuses(t, "two bytes", []byte{byte(x >> 8), byte(x)}, api.ErrSum)
	}
	for x := range 256 {
		b := crc.Seal([]byte{byte(x)})
		b[1] ^= 1
		refuses(t, "three bytes", b, api.ErrSum)
		b[1], b[2] = b[1]^1, b[2]^0x80
		refuses(t, "three bytes", b, api.ErrSum)
	}
}

// P6.2: of all sums behind a telegram one alone is taken, with all others it is ErrSum.
func TestOneSum(t *testing.T) {
	for _, k := range allKnown() {
		b := []byte(k.bytes)
		n := len(b) - 2
		want := int(b[n])<<8 | int(b[n+1])
		for sum := range 1 << 16 {
			b[n], b[n+1] = byte(sum>>8), byte(sum)
			if sum == want {
				decodes(t, b, k.f)
			} else {
				refuses(t, "another sum", b, api.ErrSum)
			}
		}
	}
}

// P6.2: what was sealed, and has fewer than three bytes, has not the form.
func TestSealedShort(t *testing.T) {
	refuses(t, "no bytes, sealed", []byte{0xff, 0xff}, api.ErrForm)
	for x := range 256 {
		refuses(t, "a byte, sealed", crc.Seal([]byte{byte(x)}), api.ErrForm)
	}
	for x := range 1 << 16 {
		refuses(t, "two bytes, sealed", crc.Seal([]byte{byte(x >> 8), byte(x)}), api.ErrForm)
	}
}

// P6.2, P6.4: sealed bytes of every channel and third byte, with up to some more behind them than are taken, and with just as many as the third byte tells; what is taken has one form. With a sum that is wrong it is ErrSum, whatever else is wrong.
func TestSealedHeads(t *testing.T) {
	for ch := range 256 {
		for count := range 256 {
			for _, n := range []int{0, 1, 2, 3, 7, 8, 15, 16, 17, 18, count - 1, count, count + 1} {
				if n < 0 {
					continue
				}
				opened := append([]byte{byte(ch), byte(ch + count), byte(count)}, mixed(n)...)
				b := crc.Seal(opened)
				if ch > 15 || count > 16 || n != count {
					refuses(t, "sealed", b, api.ErrForm)
				} else {
					f := api.Frame{Chan: ch, Seq: int(opened[1]), Data: opened[3:]}
					decodes(t, b, f)
					if again := encoded(t, f); !bytes.Equal(again, b) {
						t.Errorf("Encode of %v: % x, not % x", f, again, b)
					}
				}
				b[len(b)-1] ^= 4
				refuses(t, "sealed, another sum", b, api.ErrSum)
			}
		}
	}
}

// P6.2: each number is taken as it is told, from 0 to 255.
func TestSealedNumbers(t *testing.T) {
	for seq := range 256 {
		for ch := range 18 {
			b := crc.Seal([]byte{byte(ch), byte(seq), 1, 77})
			if ch > 15 {
				refuses(t, "channel", b, api.ErrForm)
			} else {
				decodes(t, b, api.Frame{Chan: ch, Seq: seq, Data: []byte{77}})
			}
		}
	}
}

// P6.2: so many bytes behind the head that their number is the one told as a byte, or as two, are not as many.
func TestSealedLong(t *testing.T) {
	for _, round := range []int{256, 512, 65536, 1 << 20} {
		for count := range 18 {
			opened := append([]byte{3, 4, byte(count)}, mixed(round+count)...)
			refuses(t, "sealed, long", crc.Seal(opened), api.ErrForm)
		}
	}
	refuses(t, "long", mixed(100000), api.ErrSum)
}

// P6.2: bytes behind a telegram: those 0 leave it sealed, but not in its form, others do not leave it sealed.
func TestBytesBehind(t *testing.T) {
	for _, f := range telegrams() {
		b := encoded(t, f)
		for n := 1; n < 20; n++ {
			refuses(t, "bytes 0 behind", append(bytes.Clone(b), make([]byte, n)...), api.ErrForm)
		}
		for x := 1; x < 256; x++ {
			refuses(t, "a byte behind", append(bytes.Clone(b), byte(x)), api.ErrSum)
			refuses(t, "two bytes behind", append(bytes.Clone(b), 0, byte(x)), api.ErrSum)
		}
		refuses(t, "the same again behind", append(bytes.Clone(b), b...), api.ErrSum)
		refuses(t, "sealed twice", crc.Seal(b), api.ErrForm)
	}
}

// modelled is what the document says of b, in other words: the one telegram whose bytes b is, or a number.
func modelled(b []byte) (api.Frame, api.Errno) {
	opened, ok := crc.Open(b)
	if !ok {
		return api.Frame{}, api.ErrSum
	}
	for n := range api.MaxData + 1 {
		if len(opened) == 3+n && int(opened[2]) == n && opened[0] < 16 {
			return api.Frame{Chan: int(opened[0]), Seq: int(opened[1]), Data: opened[3:]}, api.OK
		}
	}
	return api.Frame{}, api.ErrForm
}

// asModelled holds that Decode tells of b what the document says.
func asModelled(t *testing.T, name string, b []byte) {
	t.Helper()
	f, e := modelled(b)
	if e == api.OK {
		decodes(t, b, f)
	} else {
		refuses(t, name, b, e)
	}
}

// P6.2, P6.4: a telegram that is cut behind is refused; one that is cut ahead, or in its midst, too, if what is left is none.
func TestCut(t *testing.T) {
	for _, f := range telegrams() {
		b := encoded(t, f)
		for n := range b {
			if _, e := modelled(b[:n]); e == api.OK {
				t.Fatalf("% x: a telegram within another one", b[:n])
			}
			asModelled(t, "cut behind", b[:n])
			asModelled(t, "cut ahead", b[n+1:])
			for to := n + 1; to < len(b); to++ {
				asModelled(t, "cut in its midst", slices.Concat(b[:n], b[to:]))
			}
		}
	}
}

// P6.2: a telegram with a byte 0, or another one, ahead of it, or in its midst.
func TestByteBetween(t *testing.T) {
	for _, f := range telegrams() {
		b := encoded(t, f)
		for at := range len(b) + 1 {
			for _, x := range []byte{0, 1, 16, 0xff} {
				asModelled(t, "a byte between", slices.Insert(bytes.Clone(b), at, x))
			}
		}
	}
}

// P6.2, P6.4: rows of bytes by dice, most of them sealed and near to a telegram, are told as the document says, and those that are taken have one form.
func TestByDice(t *testing.T) {
	x := uint32(4711)
	below := func(n int) int {
		x = x*1664525 + 1013904223
		return int(x>>8) % n
	}
	taken := 0
	for range 300000 {
		n := below(20)
		b := mixed(n + 1000)[1000:]
		for i := range b {
			b[i] = byte(below(256))
		}
		b = append([]byte{byte(below(18)), byte(below(256)), byte(n + below(3) - 1)}, b...)
		if b = b[:len(b)-below(50)/49]; below(4) > 0 {
			b = crc.Seal(b)
		}
		asModelled(t, "dice", b)
		if f, err := frame.Decode(b); err == nil {
			taken++
			if again := encoded(t, f); !bytes.Equal(again, b) {
				t.Fatalf("% x is the telegram %v, whose bytes are % x", b, f, again)
			}
		}
	}
	if taken < 10000 {
		t.Errorf("%d telegrams by dice: too few", taken)
	}
}

// turned is b with the bits of pattern turned, the highest of them at the place at, counted from the highest bit of b's first byte on; false, if a bit of it would stand behind b.
func turned(b []byte, pattern uint16, at int) ([]byte, bool) {
	out := bytes.Clone(b)
	for i := range 16 {
		if pattern>>(15-i)&1 == 0 {
			continue
		}
		if at+i >= 8*len(b) {
			return nil, false
		}
		out[(at+i)/8] ^= 0x80 >> ((at + i) % 8)
	}
	return out, true
}

// P6.4: however bits within sixteen are turned, anywhere in a telegram and its sum, it is refused.
func TestTurned(t *testing.T) {
	all := []api.Frame{
		{},
		{Chan: 1, Seq: 2, Data: []byte{9}},
		{Chan: 15, Seq: 255, Data: []byte{0xff, 0xff}},
		{Chan: 8, Seq: 16, Data: mixed(16)},
	}
	for _, f := range all {
		b := encoded(t, f)
		for at := range 8 * len(b) {
			for pattern := 1 << 15; pattern < 1<<16; pattern++ {
				if bad, ok := turned(b, uint16(pattern), at); ok {
					refuses(t, "turned", bad, api.ErrSum)
				}
			}
		}
	}
}

// P6.4: likewise every telegram of the tests, with one bit, two, some, and all sixteen turned.
func TestTurnedAll(t *testing.T) {
	patterns := []uint16{0x8000, 0x8001, 0x8810, 0x9021, 0xaaaa, 0xbeef, 0xc000, 0xff00, 0xffff}
	for _, f := range telegrams() {
		b := encoded(t, f)
		for at := range 8 * len(b) {
			for _, pattern := range patterns {
				if bad, ok := turned(b, pattern, at); ok {
					refuses(t, "turned", bad, api.ErrSum)
				}
			}
		}
	}
}

// P6.4: no two telegrams have the same bytes.
func TestOneEach(t *testing.T) {
	seen := map[string]api.Frame{}
	for ch := range 16 {
		for seq := range 256 {
			for _, data := range []string{"", "\x00", "\x01", "\x00\x00", "\x00\x01", "\x01\x00", "\x00\x00\x00"} {
				f := api.Frame{Chan: ch, Seq: seq, Data: []byte(data)}
				b := string(encoded(t, f))
				if other, is := seen[b]; is {
					t.Fatalf("%v and %v: % x", other, f, b)
				}
				seen[b] = f
			}
		}
	}
}

// roomy is b with spare room behind it that is not 0, and all of that memory.
func roomy(b []byte) (part, whole []byte) {
	whole = append(bytes.Clone(b), "spare room, more of it than a sum"...)
	return whole[:len(b)], whole
}

// spoil changes b, and its spare room.
func spoil(b []byte) {
	whole := b[:cap(b)]
	for i := range whole {
		whole[i] ^= 0xa5
	}
}

// P6.3: Encode neither changes the data, nor their spare room, nor keeps them; its answers share memory with nothing.
func TestEncodeNew(t *testing.T) {
	for _, f := range telegrams() {
		want := encoded(t, f)
		part, whole := roomy(f.Data)
		before := bytes.Clone(whole)
		f.Data = part
		first, second := encoded(t, f), encoded(t, f)
		if !bytes.Equal(whole, before) {
			t.Errorf("%v: Encode changed what was handed in", f)
		}
		spoil(whole)
		if !bytes.Equal(first, want) || !bytes.Equal(second, want) {
			t.Errorf("%v: Encode's answer changed with what was handed in", f)
		}
		before = bytes.Clone(whole)
		spoil(first)
		if !bytes.Equal(whole, before) || !bytes.Equal(second, want) {
			t.Errorf("%v: something changed with Encode's answer", f)
		}
		decodes(t, encoded(t, f), f)
	}
}

// P6.3: data that are refused stay as they were, with their spare room.
func TestRefusedStays(t *testing.T) {
	for _, f := range []api.Frame{{Chan: 16, Data: mixed(3)}, {Seq: -1, Data: mixed(16)}, {Data: mixed(17)}, {Data: mixed(300)}} {
		part, whole := roomy(f.Data)
		before := bytes.Clone(whole)
		f.Data = part
		refusesFrame(t, f)
		if !bytes.Equal(whole, before) {
			t.Errorf("%v: Encode changed what was handed in", f)
		}
	}
	for _, b := range [][]byte{mixed(30), crc.Seal(mixed(2)), crc.Seal(mixed(30)), crc.Seal([]byte{16, 0, 0})} {
		part, whole := roomy(b)
		before := bytes.Clone(whole)
		if _, err := frame.Decode(part); err == nil || !bytes.Equal(whole, before) {
			t.Errorf("% x: Decode took it, or changed it", b)
		}
	}
}

// P6.3: Decode neither changes the bytes, nor their spare room, nor keeps them; its answers share memory with nothing.
func TestDecodeNew(t *testing.T) {
	for _, f := range telegrams() {
		part, whole := roomy(encoded(t, f))
		before := bytes.Clone(whole)
		first, err1 := frame.Decode(part)
		second, err2 := frame.Decode(part)
		if err1 != nil || err2 != nil || !bytes.Equal(whole, before) {
			t.Errorf("%v: Decode changed what was handed in: %v, %v", f, err1, err2)
		}
		spoil(whole)
		if !same(first, f) || !same(second, f) {
			t.Errorf("%v: Decode's answer changed with what was handed in", f)
		}
		before = bytes.Clone(whole)
		spoil(first.Data)
		if !bytes.Equal(whole, before) || !same(second, f) {
			t.Errorf("%v: something changed with Decode's answer", f)
		}
		spoil(whole)
		decodes(t, part, f)
	}
}

// P6.3, W2: an answer stays as it was, whatever is asked behind it, and is the same again, whatever was asked ahead of it.
func TestAnswersStay(t *testing.T) {
	var laid [][]byte
	var read []api.Frame
	for _, f := range telegrams() {
		b := encoded(t, f)
		got, err := frame.Decode(b)
		if err != nil {
			t.Fatalf("Decode of % x: %v", b, err)
		}
		laid, read = append(laid, b), append(read, got)
		refuses(t, "between", b[1:], api.ErrSum)
		refusesFrame(t, api.Frame{Chan: f.Chan, Seq: f.Seq, Data: mixed(17)})
	}
	for i, f := range telegrams() {
		if !bytes.Equal(laid[i], encoded(t, f)) || !same(read[i], f) {
			t.Errorf("%v: an answer changed later on", f)
		}
	}
}
