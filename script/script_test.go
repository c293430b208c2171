package script_test

import (
	"bytes"
	"slices"
	"testing"

	"tstate/api"
	"tstate/script"
)

// examples are inputs and their entries, spelled out: each bit of the control byte alone, all of them, and none.
var examples = []struct {
	in    api.Input
	entry [4]byte
}{
	{api.Input{Ready: true}, [4]byte{0x00, 0x00, 0x00, 0xA5}},
	{api.Input{}, [4]byte{0x01, 0x00, 0x00, 0xA4}},
	{api.Input{Ready: true, Hold: true}, [4]byte{0x02, 0x00, 0x00, 0xA7}},
	{api.Input{Ready: true, Reset: true}, [4]byte{0x04, 0x00, 0x00, 0xA1}},
	{api.Input{Ready: true, Sid: true}, [4]byte{0x08, 0x00, 0x00, 0xAD}},
	{api.Input{Ready: true, Trap: true}, [4]byte{0x10, 0x00, 0x00, 0xB5}},
	{api.Input{Ready: true, R75: true}, [4]byte{0x20, 0x00, 0x00, 0x85}},
	{api.Input{Ready: true, R65: true}, [4]byte{0x40, 0x00, 0x00, 0xE5}},
	{api.Input{Ready: true, R55: true}, [4]byte{0x80, 0x00, 0x00, 0x25}},
	{api.Input{Ready: true, Requests: 0x01}, [4]byte{0x00, 0x01, 0x00, 0xA4}},
	{api.Input{Ready: true, Requests: 0x80}, [4]byte{0x00, 0x80, 0x00, 0x25}},
	{api.Input{Ready: true, Requests: 0xA5}, [4]byte{0x00, 0xA5, 0x00, 0x00}},
	{api.Input{Ready: true, Port: 0x01}, [4]byte{0x00, 0x00, 0x01, 0xA4}},
	{api.Input{Ready: true, Port: 0xFF}, [4]byte{0x00, 0x00, 0xFF, 0x5A}},
	{api.Input{Requests: 0x12, Port: 0x34}, [4]byte{0x01, 0x12, 0x34, 0x82}},
	{api.Input{Hold: true, Trap: true, Requests: 0x0F, Port: 0xF0}, [4]byte{0x13, 0x0F, 0xF0, 0x49}},
	{
		api.Input{Ready: true, Hold: true, Reset: true, Sid: true, Trap: true, R75: true, R65: true, R55: true, Requests: 0xFF, Port: 0xFF},
		[4]byte{0xFE, 0xFF, 0xFF, 0x5B},
	},
	{
		api.Input{Hold: true, Reset: true, Sid: true, Trap: true, R75: true, R65: true, R55: true, Requests: 0x55, Port: 0xAA},
		[4]byte{0xFF, 0x55, 0xAA, 0xA5},
	},
}

// someBytes are bytes with no bit, one bit, several and all bits.
var someBytes = []byte{0x00, 0x01, 0x02, 0x08, 0x12, 0x55, 0x5A, 0x7F, 0x80, 0xA5, 0xAA, 0xFE, 0xFF}

// input is a model of the input of an entry with a right check byte.
func input(control, requests, port int) api.Input {
	set := func(value int) bool { return control/value%2 == 1 }
	return api.Input{
		Ready: !set(1), Hold: set(2), Reset: set(4), Sid: set(8), Trap: set(16), R75: set(32), R65: set(64), R55: set(128),
		Requests: byte(requests), Port: byte(port),
	}
}

// checkOf is a model of Check: a bit of it is set if an odd number of the bits at its place is.
func checkOf(control, requests, port int) byte {
	sum, place := 0, 1
	for range 8 {
		if (control/place+requests/place+port/place+0xA5/place)%2 == 1 {
			sum += place
		}
		place *= 2
	}
	return byte(sum)
}

// entryOf is a model of an entry with a right check byte.
func entryOf(control, requests, port int) []byte {
	return []byte{byte(control), byte(requests), byte(port), checkOf(control, requests, port)}
}

// numbered returns n inputs that differ from their neighbours, and the script of them.
func numbered(n int) (l []api.Input, b []byte) {
	for i := range n {
		control, requests, port := i%256, i/256%256, (i+i/65536)*7%256
		l = append(l, input(control, requests, port))
		b = append(b, entryOf(control, requests, port)...)
	}
	return l, b
}

// P24.1
func TestCheckExamples(t *testing.T) {
	for _, x := range []struct{ control, requests, port, want byte }{
		{0, 0, 0, 0xA5}, {1, 2, 4, 0xA2}, {0xA5, 0, 0, 0}, {0, 0xA5, 0, 0}, {0, 0, 0xA5, 0}, {0xA5, 0xA5, 0xA5, 0},
		{0xFF, 0, 0, 0x5A}, {0, 0xFF, 0, 0x5A}, {0, 0, 0xFF, 0x5A}, {0xFF, 0xFF, 0, 0xA5}, {0xFF, 0xFF, 0xFF, 0x5A},
		{0x80, 0x80, 0x80, 0x25}, {0x12, 0x34, 0x56, 0xD5},
	} {
		if got := script.Check(x.control, x.requests, x.port); got != x.want {
			t.Errorf("Check(%#02x, %#02x, %#02x) = %#02x, want %#02x", x.control, x.requests, x.port, got, x.want)
		}
	}
}

// P24.1: all bytes at each of the three places.
func TestCheckOfAllBytes(t *testing.T) {
	for first := range 256 {
		for second := range 256 {
			for _, third := range someBytes {
				for _, x := range [][3]int{{first, second, int(third)}, {first, int(third), second}, {int(third), first, second}} {
					if got, want := script.Check(byte(x[0]), byte(x[1]), byte(x[2])), checkOf(x[0], x[1], x[2]); got != want {
						t.Fatalf("Check of %#02x is %#02x, want %#02x", x, got, want)
					}
				}
			}
		}
	}
}

// P24.1, P24.2, P24.3
func TestExamples(t *testing.T) {
	var inputs []api.Input
	var b []byte
	for _, x := range examples {
		if got := script.Decode(x.entry[:]); !slices.Equal(got, []api.Input{x.in}) {
			t.Errorf("Decode(%#02x) = %+v, want %+v", x.entry, got, x.in)
		}
		if got := script.Encode([]api.Input{x.in}); !bytes.Equal(got, x.entry[:]) {
			t.Errorf("Encode(%+v) = %#02x, want %#02x", x.in, got, x.entry)
		}
		inputs, b = append(inputs, x.in), append(b, x.entry[:]...)
	}
	if got := script.Decode(b); !slices.Equal(got, inputs) {
		t.Errorf("Decode of all examples is %+v", got)
	}
	if got := script.Encode(inputs); !bytes.Equal(got, b) {
		t.Errorf("Encode of all examples is %#02x", got)
	}
}

// P24.2
func TestIdle(t *testing.T) {
	if got := script.Idle(); got != (api.Input{Ready: true}) {
		t.Errorf("Idle() = %+v", got)
	}
	if got := script.Encode([]api.Input{script.Idle()}); !bytes.Equal(got, []byte{0, 0, 0, 0xA5}) {
		t.Errorf("Encode of Idle is %#02x", got)
	}
}

// P24.2: all control bytes and all check bytes, of which one is right.
func TestDecodeOfAllCheckBytes(t *testing.T) {
	for control := range 256 {
		for _, requests := range someBytes {
			for _, port := range someBytes {
				right := checkOf(control, int(requests), int(port))
				var b []byte
				var want []api.Input
				for check := range 256 {
					in := api.Input{Ready: true}
					if byte(check) == right {
						in = input(control, int(requests), int(port))
					}
					b, want = append(b, byte(control), requests, port, byte(check)), append(want, in)
				}
				if got := script.Decode(b); !slices.Equal(got, want) {
					t.Fatalf("with %#02x, %#02x, %#02x and all check bytes, Decode differs", control, requests, port)
				}
			}
		}
	}
}

// P24.2: entries with wrong check bytes are idle states, and do not move the entries beside them.
func TestDecodeOfWrongEntries(t *testing.T) {
	idle := api.Input{Ready: true}
	for _, x := range []struct {
		b    []byte
		want []api.Input
	}{
		{[]byte{0, 0, 0, 0}, []api.Input{idle}},
		{[]byte{1, 0, 0, 0xA5}, []api.Input{idle}},
		{[]byte{0xFF, 0xFF, 0xFF, 0xFF}, []api.Input{idle}},
		{[]byte{2, 3, 4, 0xA4}, []api.Input{idle}},
		{[]byte{0xA5, 0, 0, 0}, []api.Input{input(0xA5, 0, 0)}},
		{[]byte{0, 0, 9, 0xA5, 0, 0, 9, 0xAC}, []api.Input{idle, {Ready: true, Port: 9}}},
		{[]byte{1, 0, 0, 0xA4, 7, 7, 7, 7, 2, 0, 0, 0xA7}, []api.Input{{}, idle, {Ready: true, Hold: true}}},
		{[]byte{9, 1, 0, 0, 0xA4, 2, 0, 0}, []api.Input{idle, idle}}, // right entries at places that are not multiples of 4
	} {
		if got := script.Decode(x.b); !slices.Equal(got, x.want) {
			t.Errorf("Decode(%#02x) = %+v, want %+v", x.b, got, x.want)
		}
	}
}

// P24.2: an incomplete entry at the end is left out, also one of three right bytes.
func TestDecodeOfIncompleteEntries(t *testing.T) {
	l, b := numbered(20)
	for n := range len(b) + 1 {
		if got := script.Decode(b[:n]); !slices.Equal(got, l[:n/4]) {
			t.Errorf("Decode of %d bytes has %d inputs: %+v", n, len(got), got)
		}
	}
	if got := script.Decode(nil); len(got) != 0 {
		t.Errorf("Decode(nil) = %+v", got)
	}
}

// P24.2: entries after MaxScript are left out. Those with wrong check bytes count as well.
func TestDecodeUpToMaxScript(t *testing.T) {
	l, b := numbered(api.MaxScript + 3)
	for n := len(b) - 25; n <= len(b); n++ {
		if got := script.Decode(b[:n]); !slices.Equal(got, l[:min(n/4, api.MaxScript)]) {
			t.Errorf("Decode of %d bytes has %d inputs", n, len(got))
		}
	}
	wrong := make([]byte, 4*api.MaxScript)
	got := script.Decode(append(wrong, 1, 0, 0, 0xA4))
	if want := slices.Repeat([]api.Input{{Ready: true}}, api.MaxScript); !slices.Equal(got, want) {
		t.Errorf("Decode of wrong entries has %d inputs", len(got))
	}
}

// P24.3: all control bytes with all bytes of the request lines and of the port.
func TestEncodeOfAllInputs(t *testing.T) {
	for control := range 256 {
		var l []api.Input
		var want []byte
		for v := range 256 {
			for _, other := range someBytes {
				l = append(l, input(control, v, int(other)), input(control, int(other), v))
				want = append(append(want, entryOf(control, v, int(other))...), entryOf(control, int(other), v)...)
			}
		}
		if got := script.Encode(l); !bytes.Equal(got, want) {
			t.Fatalf("Encode of the inputs with the control byte %#02x differs", control)
		}
	}
}

// P24.3: at most the first MaxScript inputs.
func TestEncodeUpToMaxScript(t *testing.T) {
	l, b := numbered(api.MaxScript + 3)
	for _, n := range []int{0, 1, 2, 3, 1000, api.MaxScript - 1, api.MaxScript, api.MaxScript + 1, api.MaxScript + 3} {
		if got := script.Encode(l[:n]); !bytes.Equal(got, b[:4*min(n, api.MaxScript)]) {
			t.Errorf("Encode of %d inputs has %d bytes", n, len(got))
		}
	}
	if got := script.Encode(nil); len(got) != 0 {
		t.Errorf("Encode(nil) = %#02x", got)
	}
}

// P24.4: all control bytes with all request lines, and with all bytes of the port.
func TestDecodeOfEncode(t *testing.T) {
	var withRequests, withPorts []api.Input
	for i := range 1 << 16 {
		withRequests = append(withRequests, input(i%256, i/256, i*5%256))
		withPorts = append(withPorts, input(i/256, i*3%256, i%256))
	}
	for _, l := range [][]api.Input{nil, withRequests[:1], withRequests, withPorts} {
		b := script.Encode(l)
		if got := script.Decode(b); !slices.Equal(got, l) {
			t.Errorf("Decode(Encode(l)) is not l for %d inputs", len(l))
		}
		if again := script.Encode(script.Decode(b)); !bytes.Equal(again, b) {
			t.Errorf("Encode(Decode(b)) is not b for %d right entries", len(l))
		}
	}
	long := append(withPorts, withRequests...)
	if got := script.Decode(script.Encode(long)); !slices.Equal(got, long[:api.MaxScript]) {
		t.Errorf("Decode(Encode(l)) has %d inputs for %d", len(got), len(long))
	}
}

// P24.4: each byte changed to each other one. A right entry becomes idle, and the other entries stay.
func TestChangesOfRightEntries(t *testing.T) {
	var l []api.Input
	for _, x := range examples {
		l = append(l, x.in)
	}
	b := script.Encode(l)
	for place := range b {
		want := slices.Clone(l)
		want[place/4] = api.Input{Ready: true}
		for change := 1; change < 256; change++ {
			changed := bytes.Clone(b)
			changed[place] ^= byte(change)
			if got := script.Decode(changed); !slices.Equal(got, want) {
				t.Fatalf("with byte %d as %#02x, Decode gives %+v", place, changed[place], got)
			}
		}
	}
}

// P24.4: a change of a wrong entry, or of an incomplete one, leaves all others; exactly one value makes the wrong entry right.
func TestChangesOfWrongEntries(t *testing.T) {
	b := []byte{1, 0, 0, 0xA4, 0x33, 0x44, 0x55, 0x66, 2, 0, 0, 0xA7, 3, 0, 0}
	before, idle, after := api.Input{}, api.Input{Ready: true}, api.Input{Ready: true, Hold: true}
	for place := range 4 {
		right := 0
		for v := range 256 {
			changed := bytes.Clone(b)
			changed[4+place] = byte(v)
			got := script.Decode(changed)
			if len(got) != 3 || got[0] != before || got[2] != after {
				t.Fatalf("Decode(%#02x) = %+v", changed, got)
			}
			if got[1] != idle {
				right++
			}
		}
		if right != 1 {
			t.Errorf("%d values of byte %d make the entry right", right, place)
		}
	}
	for place := 12; place < len(b); place++ {
		changed := bytes.Clone(b)
		changed[place] ^= 0xFF
		if got := script.Decode(changed); !slices.Equal(got, []api.Input{before, idle, after}) {
			t.Errorf("Decode(%#02x) = %+v", changed, got)
		}
	}
}

// R2: arguments are left, with their spare capacity, and each result is new.
func TestArgumentsAndResults(t *testing.T) {
	l, b := numbered(12)
	keptInputs, keptBytes := slices.Clone(l), bytes.Clone(b)
	inputs, encoded := script.Decode(b[:24]), script.Encode(l[:6])
	otherInputs, otherBytes := script.Decode(b[:24]), script.Encode(l[:6])
	for i := range inputs {
		inputs[i] = api.Input{Port: 0xEE}
	}
	for i := range encoded {
		encoded[i] ^= 0xFF
	}
	_, _ = append(inputs, api.Input{Port: 0xEE}), append(encoded, 0xEE)
	if !slices.Equal(l, keptInputs) || !bytes.Equal(b, keptBytes) {
		t.Error("an argument is changed")
	}
	if !slices.Equal(otherInputs, l[:6]) || !bytes.Equal(otherBytes, b[:24]) {
		t.Error("two results share memory")
	}
	clear(l)
	clear(b)
	if !slices.Equal(otherInputs, keptInputs[:6]) || !bytes.Equal(otherBytes, keptBytes[:24]) {
		t.Error("a result shares memory with an argument")
	}
}
