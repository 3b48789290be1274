package wire

import (
	"bytes"
	"hash/crc32"
	"math"
	"testing"
)

func TestCheck(t *testing.T) {
	if sum := Check(nil); sum != 0 {
		t.Errorf("Check of nothing: %d, want 0", sum)
	}
	if sum := Check([]byte("123456789")); sum != 0xCBF43926 {
		t.Errorf("Check of 123456789: %x, want cbf43926", sum)
	}
	var list []byte
	for i := range 512 {
		list = append(list, byte(i*i+i>>3))
		if sum, want := Check(list), crc32.ChecksumIEEE(list); sum != want {
			t.Fatalf("Check of %d bytes: %d, want %d", len(list), sum, want)
		}
	}
}

func TestNumber(t *testing.T) {
	for _, c := range []struct {
		n    uint32
		want []byte
	}{
		{0, []byte{0, 0, 0, 0}},
		{258, []byte{0, 0, 1, 2}},
		{0x01020304, []byte{1, 2, 3, 4}},
		{0xFF000080, []byte{255, 0, 0, 128}},
		{math.MaxUint32, []byte{255, 255, 255, 255}},
	} {
		if b := Append([]byte{9}, c.n); !bytes.Equal(b, append([]byte{9}, c.want...)) {
			t.Errorf("Append of %d: %v, want 9 and %v", c.n, b, c.want)
		}
		if n := Number(c.want); n != c.n {
			t.Errorf("Number of %v: %d, want %d", c.want, n, c.n)
		}
	}
}
