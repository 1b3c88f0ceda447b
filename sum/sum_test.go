package sum

import (
	"bytes"
	"crypto/sha256"
	"encoding/hex"
	"hash/crc32"
	"math/rand"
	"testing"

	"foliot/api"
)

// sample: n bytes, always the same ones.
func sample(n int) []byte {
	b := make([]byte, n)
	rand.New(rand.NewSource(int64(n))).Read(b)
	return b
}

// cut: b in parts, empty ones and nil among them.
func cut(b []byte, r *rand.Rand) [][]byte {
	parts := [][]byte{nil}
	for len(b) > 0 {
		n := r.Intn(min(len(b), 90) + 1)
		parts = append(parts, b[:n])
		b = b[n:]
	}
	return append(parts, []byte{})
}

// P1.1, by known sums.
func TestCRCKnown(t *testing.T) {
	for s, want := range map[string]uint32{
		"":                                 0,
		"a":                                0xe8b7be43,
		"123456789":                        0xcbf43926,
		"\x00":                             0xd202ef8d,
		"\xff":                             0xff000000,
		"\x00\x00\x00\x00\x00\x00\x00\x00": 0x6522df69,
		"The quick brown fox jumps over the lazy dog": 0x414fa339,
	} {
		if got := CRC([]byte(s)); got != want {
			t.Errorf("CRC(%q) = %08x, want %08x", s, got, want)
		}
	}
	if got := CRC(); got != 0 {
		t.Errorf("CRC of no part = %08x", got)
	}
}

// P1.1, at each byte, each length, and whatever the parts.
func TestCRCParts(t *testing.T) {
	for i := range 256 {
		b := []byte{byte(i)}
		if got, want := CRC(b), crc32.ChecksumIEEE(b); got != want {
			t.Errorf("CRC of the byte %02x = %08x, want %08x", i, got, want)
		}
	}
	r := rand.New(rand.NewSource(1))
	for n := range 400 {
		b := sample(n)
		want := crc32.ChecksumIEEE(b)
		if got := CRC(b); got != want {
			t.Errorf("CRC of %d bytes = %08x, want %08x", n, got, want)
		}
		if got := CRC(cut(b, r)...); got != want {
			t.Errorf("CRC of %d bytes in parts = %08x, want %08x", n, got, want)
		}
	}
}

// P1.2, by the standard's own examples.
func TestOfKnown(t *testing.T) {
	for _, x := range []struct{ text, want string }{
		{"", "e3b0c44298fc1c149afbf4c8996fb92427ae41e4649b934ca495991b7852b855"},
		{"abc", "ba7816bf8f01cfea414140de5dae2223b00361a396177a9cb410ff61f20015ad"},
		{"abcdbcdecdefdefgefghfghighijhijkijkljklmklmnlmnomnopnopq", "248d6a61d20638b8e5c026930c3e6039a33ce45964ff2167f6ecedd419db06c1"},
		{string(bytes.Repeat([]byte("a"), 1000000)), "cdc76e5c9914fb9281a1c7e284d73e67f1809a48a497200e046d39ccc7112cd0"},
	} {
		if got := Of([]byte(x.text)); hex.EncodeToString(got[:]) != x.want {
			t.Errorf("Of %.20q = %x, want %s", x.text, got, x.want)
		}
	}
	if Of() != Of(nil) || Of() != Of([]byte{}, nil) {
		t.Error("Of no part isn't that of empty ones")
	}
}

// P1.2, at each length about the ends of several blocks, and whatever the parts.
func TestOfParts(t *testing.T) {
	r := rand.New(rand.NewSource(2))
	for n := range 400 {
		b := sample(n)
		want := api.Sum(sha256.Sum256(b))
		if got := Of(b); got != want {
			t.Errorf("Of %d bytes = %x, want %x", n, got, want)
		}
		if got := Of(cut(b, r)...); got != want {
			t.Errorf("Of %d bytes in parts = %x, want %x", n, got, want)
		}
	}
}

// P1.2, where the bits are more than four bytes can count.
func TestOfLong(t *testing.T) {
	if testing.Short() {
		t.Skip("half a gigabyte")
	}
	part := sample(1 << 20)
	parts := make([][]byte, 513)
	h := sha256.New()
	for i := range parts {
		parts[i] = part
		h.Write(part)
	}
	got := Of(parts...)
	if !bytes.Equal(got[:], h.Sum(nil)) {
		t.Errorf("Of 513 MiB = %x, want %x", got, h.Sum(nil))
	}
}

// P1.3: Sum may be asked at any time, and changes nothing.
func TestHash(t *testing.T) {
	r := rand.New(rand.NewSource(3))
	var asked, silent Hash
	if asked.Sum() != Of() {
		t.Error("the zero Hash's Sum")
	}
	var all []byte
	for i := range 60 {
		parts := cut(sample(5*i), r)
		asked.Add(parts...)
		silent.Add(parts...)
		all = append(all, sample(5*i)...)
		if want := api.Sum(sha256.Sum256(all)); asked.Sum() != want || asked.Sum() != want {
			t.Fatalf("Sum behind %d bytes", len(all))
		}
		asked.Add()
		asked.Add(nil, []byte{})
	}
	if asked.Sum() != silent.Sum() {
		t.Error("asking changed the sum")
	}
}

// P1.3: each Hash has bytes of its own.
func TestHashesApart(t *testing.T) {
	var a, b Hash
	a.Add([]byte("ab"))
	b.Add([]byte("x"))
	a.Add([]byte("c"))
	if a.Sum() != Of([]byte("abc")) || b.Sum() != Of([]byte("x")) {
		t.Error("one Hash changed another one")
	}
}

// P1.4.
func TestLink(t *testing.T) {
	prev := Of([]byte("prev"))
	for _, b := range [][]byte{nil, {}, {0}, []byte("text"), sample(300)} {
		want := api.Sum(sha256.Sum256(append(prev[:len(prev):len(prev)], b...)))
		if got := Link(prev, b); got != want {
			t.Errorf("Link of %d bytes = %x, want %x", len(b), got, want)
		}
	}
	if Link(api.Sum{}, nil) != Of(make([]byte, 32)) {
		t.Error("Link of the zero sum and no bytes")
	}
}

// P1.4.
func TestChain(t *testing.T) {
	list := [][]byte{[]byte("a"), nil, []byte("b"), {}, sample(200), []byte("a")}
	first := api.Sum{1, 2, 3}
	got := Chain(first, list...)
	if len(got) != len(list) {
		t.Fatalf("Chain of %d texts has %d sums", len(list), len(got))
	}
	prev := first
	for i, b := range list {
		prev = Link(prev, b)
		if got[i] != prev {
			t.Errorf("sum %d = %x, want %x", i, got[i], prev)
		}
	}
	if len(Chain(first)) != 0 {
		t.Error("Chain of no text has sums")
	}
}

// P2: what is handed in is neither changed nor kept, its spare room too.
func TestHandedIn(t *testing.T) {
	whole := sample(200)
	was := bytes.Clone(whole)
	part := whole[10:90]
	list := [][]byte{part, nil, whole[100:130]}
	var h Hash
	h.Add(list...)
	sum := h.Sum()
	CRC(list...)
	Of(list...)
	Link(api.Sum{}, part)
	Chain(api.Sum{}, list...)
	if !bytes.Equal(whole, was) || len(list[0]) != 80 || list[1] != nil || len(list[2]) != 30 {
		t.Error("what was handed in is changed")
	}
	clear(whole)
	if h.Sum() != sum {
		t.Error("what was handed in is kept")
	}
}

// P2: what is answered is new memory, and hangs on the arguments alone.
func TestAnswered(t *testing.T) {
	text := []byte("text")
	a := Chain(api.Sum{}, text, text)
	want := a[0]
	clear(a[:cap(a)])
	if b := Chain(api.Sum{}, text, text); b[0] != want || a[0] != (api.Sum{}) {
		t.Error("two answers share memory")
	}
	var h Hash
	h.Add(text)
	s := h.Sum()
	clear(s[:])
	if h.Sum() != Of(text) {
		t.Error("an answer shares memory with what is kept")
	}
}

// P1: no call panics, at whatever arguments.
func TestAnyArguments(t *testing.T) {
	for _, parts := range [][][]byte{nil, {}, {nil}, {nil, {}, nil}, {make([]byte, 64)}, {make([]byte, 0, 99), sample(65)}} {
		CRC(parts...)
		Of(parts...)
		Chain(api.Sum{}, parts...)
		var h Hash
		h.Add(parts...)
		h.Sum()
		for _, p := range parts {
			Link(api.Sum{255}, p)
		}
	}
}
