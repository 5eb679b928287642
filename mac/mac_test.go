package mac_test

import (
	"bytes"
	"crypto/hmac"
	"crypto/sha256"
	"encoding/hex"
	"math/rand"
	"testing"

	"tickertape/mac"
)

func TestSum(t *testing.T) {
	for text, want := range map[string]string{
		"":    "e3b0c44298fc1c149afbf4c8996fb92427ae41e4649b934ca495991b7852b855",
		"abc": "ba7816bf8f01cfea414140de5dae2223b00361a396177a9cb410ff61f20015ad",
		"abcdbcdecdefdefgefghfghighijhijkijkljklmklmnlmnomnopnopq": "248d6a61d20638b8e5c026930c3e6039a33ce45964ff2167f6ecedd419db06c1",
	} {
		if got := hex.EncodeToString(mac.Sum([]byte(text))); got != want {
			t.Errorf("P4.1: Sum of %q is %s", text, got)
		}
	}
	r := rand.New(rand.NewSource(1))
	for n := range 300 {
		b := make([]byte, n)
		r.Read(b)
		if want := sha256.Sum256(b); !bytes.Equal(mac.Sum(b), want[:]) {
			t.Fatalf("P4.1: Sum of %d bytes", n)
		}
	}
	long := make([]byte, 1<<16+3)
	if want := sha256.Sum256(long); !bytes.Equal(mac.Sum(long), want[:]) {
		t.Error("P4.1: Sum of a long text")
	}
}

func TestHmac(t *testing.T) {
	got := hex.EncodeToString(mac.Hmac([]byte("Jefe"), []byte("what do ya want for nothing?")))
	if got != "5bdcc146bf60754e6a042426089575c75a003f089d2739839dec58b964ec3843" {
		t.Errorf("P4.1: Hmac is %s", got)
	}
	r := rand.New(rand.NewSource(2))
	for n := range 140 {
		key, text := make([]byte, n), make([]byte, r.Intn(200))
		r.Read(key)
		r.Read(text)
		h := hmac.New(sha256.New, key)
		h.Write(text)
		want := h.Sum(nil)
		if !bytes.Equal(mac.Hmac(key, text), want) || !bytes.Equal(mac.Tag(key, text), want[:16]) {
			t.Fatalf("P4.1: Hmac with a key of %d bytes", n)
		}
		cut := r.Intn(len(text) + 1)
		if !bytes.Equal(mac.Hmac(key, nil, text[:cut], nil, text[cut:]), want) || !bytes.Equal(mac.Tag(key, text[:cut], text[cut:]), want[:16]) {
			t.Fatalf("P4.3: Hmac of parts, with a key of %d bytes", n)
		}
	}
	if !bytes.Equal(mac.Hmac(nil), mac.Hmac([]byte{}, nil, []byte{})) || len(mac.Tag(nil)) != mac.Len || mac.Len != 16 {
		t.Error("P4.1: Hmac of nothing")
	}
}

func TestEqual(t *testing.T) {
	for _, c := range []struct {
		a, b string
		want bool
	}{
		{"", "", true}, {"a", "a", true}, {"abc", "abc", true}, {"a", "", false}, {"", "a", false}, {"a", "b", false},
		{"abc", "abd", false}, {"abc", "bbc", false}, {"ab", "abc", false}, {"abc", "ab", false}, {"ab\x00", "ab", false}, {"ab", "ba", false},
	} {
		if mac.Equal([]byte(c.a), []byte(c.b)) != c.want {
			t.Errorf("P4.1: Equal(%q, %q)", c.a, c.b)
		}
	}
	if !mac.Equal(nil, []byte{}) {
		t.Error("P4.1: nil and the empty list differ")
	}
}

func TestNothingIsChanged(t *testing.T) {
	long := bytes.Repeat([]byte{7}, 200)
	key, text := long[:100], long[100:150]
	first := mac.Hmac(key, text[:20], text[20:])
	mac.Sum(text)
	tag := mac.Tag(key[:3], text[:1], text[1:2])
	if !bytes.Equal(long, bytes.Repeat([]byte{7}, 200)) {
		t.Error("P4.2: what was handed in is changed")
	}
	again, same := mac.Hmac(key, text), mac.Tag(key[:3], text[:2])
	_ = append(first[:0], 1, 2, 3)
	_ = append(tag, 1, 2, 3)
	if !bytes.Equal(again, mac.Hmac(key, text)) || !bytes.Equal(same, tag) {
		t.Error("P4.2: answers share memory")
	}
}
