package packet_test

import (
	"encoding/binary"
	"math"
	"math/rand/v2"
	"slices"
	"strings"
	"testing"
	"unsafe"

	"airshare/api"
	"airshare/label"
	"airshare/packet"
)

// stations are names.
var stations = []string{
	"a", "Z", "0", "-", "_", ".", "Ann", "ann", "b-7_.x", "Ä", "äb-1", "Ωmega", "日本", "\u00a1", "\ufffc", "\uffff", "😀", "\U0010ffff",
	strings.Repeat("x", 23), strings.Repeat("x", 24), strings.Repeat("Ä", 12), strings.Repeat("日", 8), strings.Repeat("😀", 6),
}

// notStations are not names; each has at most 255 bytes.
var notStations = []string{
	"", " ", "a b", "a ", " a", "*", "a*", "a/b", "\x00", "a\x00", "\n", "\x7f", "\u0085", "\u00a0", "\ufffd", "\x80", "\xff", "\xa5\x01", "Ann\xc3", "\xed\xa0\x80",
	strings.Repeat("x", 25), strings.Repeat("Ä", 13), strings.Repeat("Ä", 12) + "x", strings.Repeat("x", 100), strings.Repeat("\x00", 255), strings.Repeat("x", 255),
}

// Numbers that are permitted in the fields, at their ends and where one of their bytes ends.
var (
	classes = []int{0, 1, 2, 3, 4, 5, 6, 7}
	ports   = []int{0, 1, 2, 127, 128, 254, 255, 256, 257, 0x1234, 0x7fff, 0x8000, 0xfeff, 0xff00, 0xfffe, 0xffff}
	lengths = []int{1, 2, 127, 128, 254, 255, 256, 257, 1500, 4094, 4095, 4096}
	lives   = ports
)

// never are permitted in no field.
var never = []int{-1, -2, -255, -256, -65536, -65535, 1 << 16, 1<<16 + 1, 1<<16 + 7, 1 << 17, 1 << 24, 1<<31 - 1, 1 << 32, 1<<32 + 1, -1 << 32, math.MaxInt, math.MaxInt - 1, math.MinInt, math.MinInt + 1}

// ann is a header whose numbers all differ.
func ann() api.Header {
	return api.Header{Station: "Ann", Class: 3, Port: 0x1234, Length: 0x0567, Life: 0x89ab}
}

// invalids returns headers with one field each that is not permitted.
func invalids() []api.Header {
	var out []api.Header
	add := func(change func(h *api.Header)) {
		h := ann()
		change(&h)
		out = append(out, h)
	}
	for _, s := range slices.Concat(notStations, []string{strings.Repeat("x", 256), strings.Repeat("x", 257), strings.Repeat("x", 256+3), strings.Repeat("x", 1<<16+3)}) {
		add(func(h *api.Header) { h.Station = s })
	}
	for _, n := range slices.Concat(never, []int{8, 9, 15, 16, 127, 128, 255, 256, 259, 65535}) {
		add(func(h *api.Header) { h.Class = n })
	}
	for _, n := range never {
		add(func(h *api.Header) { h.Port = n })
		add(func(h *api.Header) { h.Life = n })
	}
	for _, n := range slices.Concat(never, []int{0, 4097, 4098, 8192, 32768, 65535}) {
		add(func(h *api.Header) { h.Length = n })
	}
	return out
}

// everyHeader calls visit with headers that are valid: those in which two fields take their numbers from the lists, and some others.
func everyHeader(visit func(h api.Header)) {
	for _, s := range stations {
		for _, n := range classes {
			visit(api.Header{Station: s, Class: n, Port: 80, Length: 1500, Life: 0})
		}
		for _, n := range lengths {
			visit(api.Header{Station: s, Length: n, Life: 65535})
		}
	}
	for _, port := range ports {
		for _, life := range lives {
			visit(api.Header{Station: "b", Class: 5, Port: port, Length: 4096, Life: life})
		}
		for _, length := range lengths {
			visit(api.Header{Station: "Ω", Class: 7, Port: port, Length: length})
		}
	}
	source := rand.New(rand.NewPCG(41, 42))
	for range 2000 {
		visit(randomHeader(source))
	}
}

// randomHeader returns a header that is valid.
func randomHeader(source *rand.Rand) api.Header {
	return api.Header{
		Station: stations[source.IntN(len(stations))],
		Class:   source.IntN(8),
		Port:    source.IntN(65536) >> source.IntN(16),
		Length:  1 + source.IntN(4096)>>source.IntN(12),
		Life:    source.IntN(65536) >> source.IntN(16),
	}
}

// wantChecksum returns the checksum as two sums that are reduced at their ends: in the second one, each byte counts as often as bytes follow from it on.
func wantChecksum(s string) int {
	var sum, weighted uint64
	for i, x := range []byte(s) {
		sum += uint64(x)
		weighted += uint64(x) * uint64(len(s)-i)
	}
	return int(weighted%255*256 + sum%255)
}

// sealed returns the bytes with their checksum behind them.
func sealed(body string) string {
	return string(binary.BigEndian.AppendUint16([]byte(body), uint16(wantChecksum(body))))
}

// wantRecord returns the record of a header, or of what would be one if its fields were permitted.
func wantRecord(h api.Header) string {
	out := []byte{0xa5, 0x01, byte(h.Class)}
	for _, n := range []int{h.Port, h.Length, h.Life} {
		out = binary.BigEndian.AppendUint16(out, uint16(n))
	}
	return sealed(string(out) + string([]byte{byte(len(h.Station))}) + h.Station)
}

// wantParse returns what Parse must return.
func wantParse(s string) (api.Header, api.Errno) {
	if len(s) < 12 {
		return api.Header{}, api.ErrTruncated
	}
	if s[0] != 0xa5 || s[1] != 1 {
		return api.Header{}, api.ErrMalformed
	}
	switch need := 12 + int(s[9]); {
	case len(s) < need:
		return api.Header{}, api.ErrTruncated
	case len(s) > need:
		return api.Header{}, api.ErrMalformed
	}
	body := s[:len(s)-2]
	if sealed(body) != s {
		return api.Header{}, api.ErrChecksum
	}
	bytes := []byte(s)
	h := api.Header{Station: body[10:], Class: int(s[2])}
	h.Port, h.Length, h.Life = int(binary.BigEndian.Uint16(bytes[3:])), int(binary.BigEndian.Uint16(bytes[5:])), int(binary.BigEndian.Uint16(bytes[7:]))
	if !label.Valid(h.Station) || h.Class > 7 || h.Length < 1 || h.Length > 4096 {
		return api.Header{}, api.ErrInvalid
	}
	return h, api.OK
}

// changed returns s with another byte at i.
func changed(s string, i int, x byte) string {
	out := []byte(s)
	out[i] = x
	return string(out)
}

func checkValid(t *testing.T, h api.Header, want bool) {
	t.Helper()
	if got := packet.Valid(h); got != want {
		t.Fatalf("Valid(%+v) = %t", h, got)
	}
}

func checkSum(t *testing.T, s string, want int) {
	t.Helper()
	if got := packet.Checksum(s); got != want {
		t.Fatalf("Checksum(%q) = %#x, want %#x", s, got, want)
	}
}

func checkFormat(t *testing.T, h api.Header, want string, wantErr api.Errno) {
	t.Helper()
	if got, err := packet.Format(h); got != want || err != wantErr {
		t.Fatalf("Format(%+v) = %q, %d, want %q, %d", h, got, err, want, wantErr)
	}
}

func checkParse(t *testing.T, s string, want api.Header, wantErr api.Errno) {
	t.Helper()
	if got, err := packet.Parse(s); got != want || err != wantErr {
		t.Fatalf("Parse(%q) = %+v, %d, want %+v, %d", s, got, err, want, wantErr)
	}
}

// checkError checks that Parse returns an error and nothing beside it.
func checkError(t *testing.T, s string, want api.Errno) {
	t.Helper()
	checkParse(t, s, api.Header{}, want)
}

// checkBoth checks Parse against wantParse, and the consequence that Format returns what was parsed.
func checkBoth(t *testing.T, s string) {
	t.Helper()
	h, err := wantParse(s)
	checkParse(t, s, h, err)
	if err == api.OK {
		checkFormat(t, h, s, api.OK)
	}
}

// TestExamples checks the chapter's examples.
func TestExamples(t *testing.T) {
	checkSum(t, "\x01\x02", 256*4+3)
	checkError(t, "", api.ErrTruncated)
	if s, err := packet.Format(api.Header{Station: "a", Length: 1}); len(s) != 13 || err != api.OK {
		t.Errorf("the record %q has %d bytes, %d", s, len(s), err)
	}
}

// TestChecksum checks P8.1 for single bytes, for sums that are a multiple of 255, and for known sums of texts.
func TestChecksum(t *testing.T) {
	for _, c := range []struct {
		s    string
		want int
	}{
		{"", 0}, {"\x00", 0}, {"\x01", 0x0101}, {"\x7f", 0x7f7f}, {"\x80", 0x8080}, {"\xfe", 0xfefe}, {"\xff", 0}, {"\x00\x00\x00", 0}, {"\xff\xff\xff", 0}, {"\x00\xff", 0},
		{"\x02\x01", 0x0503}, {"\x01\x00", 0x0201}, {"\x00\x01", 0x0101}, {"\x01\xff", 0x0201}, {"\xff\x01", 0x0101}, {"\xfe\x01", 0xfe00}, {"\x01\xfe", 0x0100}, {"\xfe\xfe", 0xfcfd}, {"\x7f\x01", 0x0080}, {"\x7f\x80", 0x7f00},
		{"abcde", 0xc8f0}, {"abcdef", 0x2057}, {"abcdefgh", 0x0627},
		// Bytes count, not runes.
		{"ä", 0x2c68}, {"\xa4\xc3", 0x0d68}, {"\xc3", 0xc3c3}, {"\xff\xfe\xfd", 0xfbfc},
	} {
		checkSum(t, c.s, c.want)
		if want := wantChecksum(c.s); want != c.want {
			t.Errorf("the test expects both %#x and %#x", want, c.want)
		}
	}
}

// TestChecksumAll checks P8.1 for all strings of two bytes and for longer ones, among them some in which sums that are not reduced would not fit.
func TestChecksumAll(t *testing.T) {
	for a := range 256 {
		checkSum(t, string([]byte{byte(a)}), a%255*257)
		for b := range 256 {
			checkSum(t, string([]byte{byte(a), byte(b)}), (2*a+b)%255*256+(a+b)%255)
		}
	}
	source := rand.New(rand.NewPCG(43, 44))
	for n := range 3000 {
		some := make([]byte, n)
		for i := range some {
			some[i] = byte(source.IntN(256))
		}
		checkSum(t, string(some), wantChecksum(string(some)))
	}
	for _, letter := range []string{"\x00", "\x01", "\x7f", "\xfe", "\xff", "日"} {
		for _, n := range []int{254, 255, 256, 257, 65535, 65536, 1<<20 + 3} {
			s := strings.Repeat(letter, n)
			if got := packet.Checksum(s); got != wantChecksum(s) {
				t.Errorf("the checksum of %d times %q is %#x, want %#x", n, letter, got, wantChecksum(s))
			}
		}
	}
}

// TestValid checks P8.1 for the fields of headers, with each number of a field that fits into its bytes.
func TestValid(t *testing.T) {
	checkValid(t, ann(), true)
	everyHeader(func(h api.Header) { checkValid(t, h, true) })
	for _, h := range invalids() {
		checkValid(t, h, false)
	}
	checkValid(t, api.Header{}, false)
	checkValid(t, api.Header{Station: "a", Length: 1}, true)
	checkValid(t, api.Header{Station: strings.Repeat("z", 24), Class: 7, Port: 65535, Length: 4096, Life: 65535}, true)
	for n := -300; n < 66000; n++ {
		h := ann()
		h.Class = n
		checkValid(t, h, n >= 0 && n <= 7)
		h = ann()
		h.Port = n
		checkValid(t, h, n >= 0 && n <= 65535)
		h = ann()
		h.Length = n
		checkValid(t, h, n >= 1 && n <= 4096)
		h = ann()
		h.Life = n
		checkValid(t, h, n >= 0 && n <= 65535)
	}
}

// written are headers and their records, written out byte by byte.
var written = []struct {
	h      api.Header
	record string
}{
	{ann(), "\xa5\x01\x03\x12\x34\x05\x67\x89\xab\x03\x41\x6e\x6e\xcb\xb2"},
	{api.Header{Station: "a", Length: 1}, "\xa5\x01\x00\x00\x00\x00\x01\x00\x00\x01\x61\x90\x0a"},
	{api.Header{Station: "Ä", Class: 7, Port: 65535, Length: 4096, Life: 65535}, "\xa5\x01\x07\xff\xff\x10\x00\xff\xff\x02\xc3\x84\x97\x08"},
	{api.Header{Station: strings.Repeat("z", 24), Class: 5, Port: 256, Length: 255, Life: 257}, "\xa5\x01\x05\x01\x00\x00\xff\x01\x01\x18" + strings.Repeat("\x7a", 24) + "\xf7\x42"},
}

// TestWritten checks P8.2 and P8.3 for records that are written out.
func TestWritten(t *testing.T) {
	for _, c := range written {
		checkFormat(t, c.h, c.record, api.OK)
		checkParse(t, c.record, c.h, api.OK)
		if want := wantRecord(c.h); want != c.record {
			t.Errorf("the test expects both %q and %q", want, c.record)
		}
	}
}

// TestHeaders checks P8.2, P8.3 and the first consequence for many headers that are valid.
func TestHeaders(t *testing.T) {
	everyHeader(func(h api.Header) {
		s := wantRecord(h)
		checkFormat(t, h, s, api.OK)
		checkParse(t, s, h, api.OK)
	})
}

// TestAllNumbers checks P8.2 and P8.3 for each number that a field may have.
func TestAllNumbers(t *testing.T) {
	for n := range 65536 {
		for _, h := range []api.Header{
			{Station: "x", Class: n % 8, Port: n, Length: 1 + n%4096, Life: 65535 - n},
			{Station: "yä", Class: 7 - n%8, Port: 255, Length: 4096 - n%4096, Life: n},
		} {
			s := wantRecord(h)
			checkFormat(t, h, s, api.OK)
			checkParse(t, s, h, api.OK)
		}
	}
}

// TestFormatInvalid checks the error of P8.2.
func TestFormatInvalid(t *testing.T) {
	for _, h := range invalids() {
		checkFormat(t, h, "", api.ErrInvalid)
	}
	checkFormat(t, api.Header{}, "", api.ErrInvalid)
	checkFormat(t, api.Header{Station: "", Class: -1, Port: -1, Length: -1, Life: -1}, "", api.ErrInvalid)
}

// TestShort checks the first error of P8.3: it comes before all others.
func TestShort(t *testing.T) {
	record := wantRecord(ann())
	for n := range 12 {
		for _, s := range []string{record[:n], record[len(record)-n:], strings.Repeat("\x00", n), strings.Repeat("\xff", n), strings.Repeat("\xa5", n), ("x" + record)[:n], strings.Repeat("ä", 6)[:n]} {
			checkError(t, s, api.ErrTruncated)
		}
	}
	for _, s := range []string{"\xa5", "\x01", "\xa5\x01", "\xa5\x02", "\x01\xa5", "A5 01"} {
		checkError(t, s, api.ErrTruncated)
	}
	// With twelve bytes, there is room for a station without bytes, which is not a name.
	checkError(t, sealed("\xa5\x01\x00\x00\x50\x00\x64\x00\x00\x00"), api.ErrInvalid)
	checkError(t, sealed("\xa5\x01\x00\x00\x50\x00\x64\x00\x00\x00")[:11], api.ErrTruncated)
}

// TestStart checks the second error of P8.3, and that it comes before those of the length, the checksum and the header.
func TestStart(t *testing.T) {
	record := wantRecord(ann())
	for x := range 256 {
		for i, right := range []byte{0xa5, 0x01} {
			if byte(x) == right {
				continue
			}
			s := changed(record, i, byte(x))
			checkError(t, s, api.ErrMalformed)
			checkError(t, sealed(s[:13]), api.ErrMalformed)
			checkError(t, s[:12], api.ErrMalformed)
			checkError(t, s[:14], api.ErrMalformed)
			checkError(t, s+"x", api.ErrMalformed)
			checkError(t, sealed(changed(s[:13], 2, 8)), api.ErrMalformed)
			checkError(t, s[:11], api.ErrTruncated)
		}
	}
	for _, s := range []string{"\x01\xa5" + record[2:], record[1:], record[2:], "\x00" + record, "A501" + record[2:], strings.Repeat("\x00", 12), strings.Repeat("\xff", 300)} {
		checkError(t, s, api.ErrMalformed)
	}
}

// TestStationBytes checks the third and fourth error of P8.3 for each number of bytes of the station, and that they come before those of the checksum and the header.
func TestStationBytes(t *testing.T) {
	for count := range 256 {
		for have := range 300 {
			body := "\xa5\x01\x03\x12\x34\x05\x67\x00\x07" + string([]byte{byte(count)}) + strings.Repeat("x", have)
			want := api.OK
			switch {
			case have < count:
				want = api.ErrTruncated
			case have > count:
				want = api.ErrMalformed
			case count < 1 || count > 24:
				want = api.ErrInvalid
			}
			h := api.Header{}
			if want == api.OK {
				h = api.Header{Station: strings.Repeat("x", have), Class: 3, Port: 0x1234, Length: 0x567, Life: 7}
			}
			checkParse(t, sealed(body), h, want)
			if want == api.OK || want == api.ErrInvalid {
				want = api.ErrChecksum
			}
			checkError(t, body+"\xff\xff", want)
			if have != count {
				checkError(t, sealed(changed(body, 2, 8)), want)
			}
		}
	}
}

// TestCut checks the errors of P8.3 for all that a record begins with, and for bytes behind records.
func TestCut(t *testing.T) {
	for _, c := range written {
		for n := range len(c.record) {
			checkError(t, c.record[:n], api.ErrTruncated)
		}
		for _, more := range []string{"\x00", "\xff", "x", "\r\n", c.record, c.record[:1], strings.Repeat("x", 300), strings.Repeat("\x00", 1<<16)} {
			checkError(t, c.record+more, api.ErrMalformed)
		}
	}
}

// TestWrongChecksum checks the fifth error of P8.3 for all other checksums, and that it comes before that of the header.
func TestWrongChecksum(t *testing.T) {
	body := wantRecord(ann())[:13]
	invalid := changed(body, 2, 8)
	for sum := range 65536 {
		two := string([]byte{byte(sum >> 8), byte(sum)})
		if sum == wantChecksum(body) {
			checkParse(t, body+two, ann(), api.OK)
		} else {
			checkError(t, body+two, api.ErrChecksum)
		}
		if sum != wantChecksum(invalid) {
			checkError(t, invalid+two, api.ErrChecksum)
		}
	}
}

// TestInvalidHeader checks the last error of P8.3, where all else of the record is right.
func TestInvalidHeader(t *testing.T) {
	for _, station := range notStations {
		h := ann()
		h.Station = station
		checkError(t, wantRecord(h), api.ErrInvalid)
	}
	for n := range 65536 {
		h := ann()
		h.Length = n
		if n < 1 || n > 4096 {
			checkError(t, wantRecord(h), api.ErrInvalid)
		}
		h.Length, h.Class = 1, n%256
		if h.Class > 7 {
			checkError(t, wantRecord(h), api.ErrInvalid)
		}
	}
	checkError(t, sealed("\xa5\x01\xff\xff\xff\xff\xff\xff\xff\xff"+strings.Repeat("\xff", 255)), api.ErrInvalid)
}

// TestChangedBytes checks the second consequence for each byte of records, and what P8.3 requires for the bytes that the consequence leaves out.
func TestChangedBytes(t *testing.T) {
	source := rand.New(rand.NewPCG(45, 46))
	var records []string
	for _, c := range written {
		records = append(records, c.record)
	}
	for range 100 {
		records = append(records, wantRecord(randomHeader(source)))
	}
	for _, s := range records {
		for i := range len(s) {
			for x := range 256 {
				if byte(x) == s[i] {
					continue
				}
				other := changed(s, i, byte(x))
				_, err := packet.Parse(other)
				if exempt := (x == 0 || x == 255) && (s[i] == 0 || s[i] == 255); err == api.OK && !exempt {
					t.Fatalf("%q with the byte %#x at %d is parsed", s, x, i)
				}
				checkBoth(t, other)
			}
		}
	}
}

// TestSameChecksum checks P8.3 for bytes 0 and 255, which the checksum does not tell apart: in the fields both are read, in the checksum 255 is wrong.
func TestSameChecksum(t *testing.T) {
	s := wantRecord(api.Header{Station: "b", Class: 1, Port: 0, Length: 255, Life: 0xff00})
	checkParse(t, changed(s, 3, 255), api.Header{Station: "b", Class: 1, Port: 0xff00, Length: 255, Life: 0xff00}, api.OK)
	checkParse(t, changed(s, 4, 255), api.Header{Station: "b", Class: 1, Port: 0x00ff, Length: 255, Life: 0xff00}, api.OK)
	checkParse(t, changed(s, 7, 0), api.Header{Station: "b", Class: 1, Port: 0, Length: 255, Life: 0}, api.OK)
	checkError(t, changed(s, 6, 0), api.ErrInvalid)
	checkError(t, changed(s, 5, 255), api.ErrInvalid)
	high, low := 0, 0
	everyHeader(func(h api.Header) {
		s := wantRecord(h)
		if s[len(s)-2] == 0 {
			high++
			checkError(t, changed(s, len(s)-2, 255), api.ErrChecksum)
		}
		if s[len(s)-1] == 0 {
			low++
			checkError(t, changed(s, len(s)-1, 255), api.ErrChecksum)
		}
	})
	if high == 0 || low == 0 {
		t.Errorf("%d and %d records have a byte 0 in the checksum", high, low)
	}
}

// TestRandomBytes checks all functions for strings of any bytes, and for records with some changes that get a right checksum.
func TestRandomBytes(t *testing.T) {
	source := rand.New(rand.NewPCG(47, 48))
	parsed := 0
	for range 200000 {
		some := make([]byte, source.IntN(40))
		if source.IntN(4) > 0 {
			record := wantRecord(randomHeader(source))
			some = []byte(record[:len(record)-2])
		}
		for range source.IntN(3) {
			if len(some) > 0 {
				some[source.IntN(len(some))] = byte(source.IntN(256)) >> source.IntN(8)
			}
		}
		s := string(some)
		checkSum(t, s, wantChecksum(s))
		checkBoth(t, s)
		checkBoth(t, sealed(s))
		if _, err := packet.Parse(sealed(s)); err == api.OK {
			parsed++
		}
	}
	if parsed < 20000 || parsed > 180000 {
		t.Errorf("%d strings were parsed", parsed)
	}
}

// TestMemory checks that the station of a header lies in memory of its own, and that no two results share any.
func TestMemory(t *testing.T) {
	s := wantRecord(ann())
	first, _ := packet.Parse(s)
	second, _ := packet.Parse(s)
	begin := uintptr(unsafe.Pointer(unsafe.StringData(s)))
	for _, h := range []api.Header{first, second} {
		if at := uintptr(unsafe.Pointer(unsafe.StringData(h.Station))); at >= begin && at < begin+uintptr(len(s)) {
			t.Error("a station lies in the record")
		}
	}
	if unsafe.StringData(first.Station) == unsafe.StringData(second.Station) {
		t.Error("the stations of two headers share memory")
	}
	one, _ := packet.Format(first)
	two, _ := packet.Format(first)
	if unsafe.StringData(one) == unsafe.StringData(two) {
		t.Error("two records share memory")
	}
}

// results is what all functions return for the same header and string.
type results struct {
	valid     bool
	sum       int
	record    string
	formatErr api.Errno
	header    api.Header
	parseErr  api.Errno
}

func resultsOf(h api.Header, s string) (r results) {
	r.valid, r.sum = packet.Valid(h), packet.Checksum(s)
	r.record, r.formatErr = packet.Format(h)
	r.header, r.parseErr = packet.Parse(s)
	return r
}

// TestRepeated checks P2: neither earlier calls nor their order matter.
func TestRepeated(t *testing.T) {
	type call struct {
		h api.Header
		s string
	}
	var calls []call
	everyHeader(func(h api.Header) {
		s := wantRecord(h)
		calls = append(calls, call{h, s}, call{h, s[:len(s)-1]}, call{h, s + "x"})
	})
	for _, h := range invalids() {
		calls = append(calls, call{h, wantRecord(h)}, call{h, h.Station})
	}
	var first []results
	for _, c := range calls {
		first = append(first, resultsOf(c.h, c.s))
	}
	for i, c := range slices.Backward(calls) {
		if again := resultsOf(c.h, c.s); again != first[i] {
			t.Errorf("%+v, %q: got %+v first and %+v then", c.h, c.s, first[i], again)
		}
	}
}
