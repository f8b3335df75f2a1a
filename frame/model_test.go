package frame_test

import (
	"bytes"
	"crypto/sha256"
	"encoding/binary"
	"math"
	"math/rand"
	"reflect"
	"strconv"
	"strings"
	"testing"

	"jackfield/api"
	"jackfield/frame"
)

// table says the chapter's table a second time: a kind, its layout, its fields, and the lengths of its Bytes.
const table = `
1 tqr Who,Got,Bytes 0 32
2 r Bytes 1 32
3 r Bytes 32 32
4 qr Got,Bytes 1 32
5 b Code
6 q Got
7 qwt Seq,Stream,Name
8 qw Seq,Stream
11 qw Seq,Stream
9 qwr Seq,Stream,Bytes 1 512
10 qww Seq,Stream,Amount
12 qwb Seq,Stream,Code
13 qtf Seq,Name,Weight
14 qt Seq,Name
15 qtt Seq,Who,Name
16 qtt Seq,Who,Name
17 qbt Seq,Code,Name`

// A form is a row of the table.
type form struct {
	layout      string
	fields      []string
	least, most int
}

var forms = readTable()

func readTable() map[int]form {
	all := map[int]form{}
	for _, line := range strings.Split(strings.TrimSpace(table), "\n") {
		words := strings.Fields(line)
		kind, _ := strconv.Atoi(words[0])
		r := form{layout: words[1], fields: strings.Split(words[2], ",")}
		if len(words) > 3 {
			r.least, _ = strconv.Atoi(words[3])
			r.most, _ = strconv.Atoi(words[4])
		}
		all[kind] = r
	}
	return all
}

func within(n, least, most int64) bool { return n >= least && n <= most }

// fits says what is asked of a field that a kind uses.
func (r form) fits(name string, v reflect.Value) bool {
	switch name {
	case "Seq":
		return within(v.Int(), 1, 1<<40)
	case "Got":
		return within(v.Int(), 0, 1<<40)
	case "Stream", "Amount":
		return within(v.Int(), 1, 1<<31-1)
	case "Code":
		return within(v.Int(), 0, 13)
	case "Who":
		return within(int64(v.Len()), 1, 16)
	case "Name":
		return within(int64(v.Len()), 1, 63)
	case "Bytes":
		return within(int64(v.Len()), int64(r.least), int64(r.most))
	}
	return true
}

func isZero(v reflect.Value) bool {
	switch v.Kind() {
	case reflect.Slice:
		return v.Len() == 0
	case reflect.Float64:
		return math.Float64bits(v.Float()) == 0
	}
	return v.IsZero()
}

// modelValid takes the frame's fields one by one, by their names.
func modelValid(f api.Frame) bool {
	r, known := forms[f.Kind]
	if !known {
		return false
	}
	v := reflect.ValueOf(f)
	for i := range v.NumField() {
		name := v.Type().Field(i).Name
		used := strings.Contains(","+strings.Join(r.fields, ",")+",", ","+name+",")
		switch {
		case name == "Kind":
		case used && !r.fits(name, v.Field(i)):
			return false
		case !used && !isZero(v.Field(i)):
			return false
		}
	}
	return true
}

// modelPut is the encoding of a valid frame, by its layout's letters.
func modelPut(f api.Frame) []byte {
	r := forms[f.Kind]
	body := []byte{byte(f.Kind)}
	for i, name := range r.fields {
		v := reflect.ValueOf(f).FieldByName(name)
		switch r.layout[i] {
		case 'b':
			body = append(body, byte(v.Int()))
		case 'w':
			body = binary.BigEndian.AppendUint32(body, uint32(v.Int()))
		case 'q':
			body = binary.BigEndian.AppendUint64(body, uint64(v.Int()))
		case 'f':
			body = binary.BigEndian.AppendUint64(body, math.Float64bits(v.Float()))
		case 't':
			body = append(append(body, byte(v.Len())), v.String()...)
		case 'r':
			body = append(binary.BigEndian.AppendUint16(body, uint16(v.Len())), v.Bytes()...)
		}
	}
	b := append(binary.BigEndian.AppendUint16(nil, uint16(len(body))), body...)
	sum := sha256.Sum256(b)
	return append(b, sum[:4]...)
}

// holds holds every call on a frame against the model.
func holds(t *testing.T, f api.Frame) {
	t.Helper()
	if r, known := forms[f.Kind]; frame.Layout(f.Kind) != r.layout || frame.Row(f.Kind) != (known && strings.HasPrefix(strings.Join(r.fields, ","), "Seq")) {
		t.Fatalf("kind %d: Layout %q, Row %v", f.Kind, frame.Layout(f.Kind), frame.Row(f.Kind))
	}
	if !modelValid(f) {
		wantInvalid(t, f)
		return
	}
	want := modelPut(f)
	wantPut(t, f, want)
	g, err := frame.Get(want)
	if err != nil {
		return
	}
	// P5.2: back again, byte by byte.
	if b, err := frame.Put(g); err != nil || !bytes.Equal(b, want) || len(b) > api.MaxFrame {
		t.Errorf("Put(Get(%x)) = %x, %v", want, b, err)
	}
}

func pick[T any](r *rand.Rand, from ...T) T { return from[r.Intn(len(from))] }

func chanceBytes(r *rand.Rand, n int) []byte {
	b := make([]byte, n)
	r.Read(b)
	return b
}

func chanceWeight(r *rand.Rand) float64 {
	return pick(r, r.Float64(), -r.Float64(), math.Float64frombits(r.Uint64()), 0, minusZero, math.NaN(), math.Inf(1), 1e6, 2e6)
}

// chanceFrame has the fields of its kind, most of them in bounds; now and then one more.
func chanceFrame(r *rand.Rand) api.Frame {
	f := api.Frame{Kind: r.Intn(18) + r.Intn(2)}
	set := map[string]func(){
		"Seq":    func() { f.Seq = pick(r, 1+r.Intn(1<<40), 1<<40, 1, 7) },
		"Got":    func() { f.Got = pick(r, r.Intn(1<<40), 1<<40, 0, 7) },
		"Stream": func() { f.Stream = pick(r, 1+r.Intn(1<<31-1), 1<<31-1, 1, 2) },
		"Amount": func() { f.Amount = pick(r, 1+r.Intn(1<<31-1), 1<<31-1, 1, 600) },
		"Code":   func() { f.Code = r.Intn(14) },
		"Who":    func() { f.Who = string(chanceBytes(r, 1+r.Intn(16))) },
		"Name":   func() { f.Name = string(chanceBytes(r, 1+r.Intn(63))) },
		"Weight": func() { f.Weight = chanceWeight(r) },
		"Bytes":  func() { f.Bytes = chanceBytes(r, pick(r, 32, 1+r.Intn(32))) },
	}
	for _, name := range forms[f.Kind].fields {
		set[name]()
	}
	if f.Kind == api.FData {
		f.Bytes = chanceBytes(r, 1+r.Intn(512))
	}
	switch names := []string{"Seq", "Got", "Stream", "Amount", "Code", "Who", "Name", "Weight", "Bytes"}; r.Intn(6) {
	case 0:
		set[pick(r, names...)]()
	case 1:
		spoil(r, &f, pick(r, names...))
	}
	return f
}

// spoil puts a field to a value at or beyond an edge of some field.
func spoil(r *rand.Rand, f *api.Frame, name string) {
	number := pick(r, 0, -1, 1, 13, 14, 255, 256, 1<<31-1, 1<<31, 1<<32, 1<<40, 1<<40+1, math.MaxInt, math.MinInt)
	length := pick(r, 0, 1, 16, 17, 31, 32, 33, 63, 64, 255, 256, 512, 513, 1000)
	v := reflect.ValueOf(f).Elem().FieldByName(name)
	switch v.Kind() {
	case reflect.Int:
		v.SetInt(int64(number))
	case reflect.String:
		v.SetString(text(length))
	case reflect.Slice:
		v.SetBytes(bytesOf(length))
	default:
		v.SetFloat(chanceWeight(r))
	}
}

// P5.1, P5.2: frames by chance, valid and not.
func TestManyFrames(t *testing.T) {
	r := rand.New(rand.NewSource(5))
	valid := 0
	const rounds = 60000
	for range rounds {
		f := chanceFrame(r)
		if modelValid(f) {
			valid++
		}
		holds(t, f)
		if t.Failed() {
			return
		}
	}
	if valid < rounds/2 || valid > rounds*9/10 {
		t.Errorf("%d of %d frames were valid", valid, rounds)
	}
}

// modelGet looks for the frame in the bytes by trying: it reads the fields loosely, and asks whether that frame has these bytes.
func modelGet(b []byte) (api.Frame, bool) {
	if len(b) < 7 {
		return api.Frame{}, false
	}
	f := api.Frame{Kind: int(b[2])}
	r := forms[f.Kind]
	rest := b[3 : len(b)-4]
	cut := func(n int) []byte {
		part := make([]byte, n) // what is missing reads as 0
		rest = rest[copy(part, rest):]
		return part
	}
	for i, name := range r.fields {
		v := reflect.ValueOf(&f).Elem().FieldByName(name)
		switch r.layout[i] {
		case 'b':
			v.SetInt(int64(cut(1)[0]))
		case 'w':
			v.SetInt(int64(binary.BigEndian.Uint32(cut(4))))
		case 'q':
			v.SetInt(int64(binary.BigEndian.Uint64(cut(8))))
		case 'f':
			v.SetFloat(math.Float64frombits(binary.BigEndian.Uint64(cut(8))))
		case 't':
			v.SetString(string(cut(int(cut(1)[0]))))
		case 'r':
			v.SetBytes(cut(int(binary.BigEndian.Uint16(cut(2)))))
		}
	}
	if !modelValid(f) || !bytes.Equal(modelPut(f), b) {
		return api.Frame{}, false
	}
	return f, true
}

// bent is a frame's bytes with a few of the body's changed, taken out or put in; the number ahead and the check are mostly made anew.
func bent(r *rand.Rand, f api.Frame) []byte {
	b := modelPut(f)
	body := bytes.Clone(b[2 : len(b)-4])
	for range r.Intn(3) {
		at := r.Intn(len(body))
		switch r.Intn(5) {
		case 0:
			body = append(body[:at], append([]byte{byte(r.Intn(256))}, body[at:]...)...)
		case 1:
			if len(body) > 1 {
				body = append(body[:at], body[at+1:]...)
			}
		case 2:
			body[at] = byte(r.Intn(256))
		default:
			body[at] += pick[byte](r, 1, 255)
		}
	}
	n := len(body)
	if r.Intn(8) == 0 {
		n = len(b) - 6
	}
	out := sealAs(n, body)
	if r.Intn(8) == 0 {
		out[r.Intn(len(out))] ^= 1 << r.Intn(8)
	}
	return out
}

// P5.1, P5.2: bytes near to frames, by chance, most of them with a right check.
func TestManyBytes(t *testing.T) {
	r := rand.New(rand.NewSource(55))
	found := 0
	const rounds = 40000
	for range rounds {
		f := chanceFrame(r)
		for !modelValid(f) {
			f = chanceFrame(r)
		}
		b := bent(r, f)
		want, ok := modelGet(b)
		if !ok {
			wantNoFrame(t, b)
		} else {
			found++
			wantPut(t, want, b)
		}
		if t.Failed() {
			return
		}
	}
	if found < rounds/5 || found > rounds*4/5 {
		t.Errorf("%d of %d bytes were frames", found, rounds)
	}
}

// P5.1: every body of up to two bytes, and every byte at each place of a short frame, with a right check.
func TestShortBodies(t *testing.T) {
	check := func(body []byte) {
		b := seal(body)
		if want, ok := modelGet(b); ok {
			wantPut(t, want, b)
		} else {
			wantNoFrame(t, b)
		}
	}
	for x := range 256 {
		check([]byte{byte(x)})
		for y := range 256 {
			check([]byte{byte(x), byte(y)})
		}
	}
	for _, s := range samples() {
		for at := range len(s.body) {
			for x := range 256 {
				body := []byte(s.body)
				body[at] = byte(x)
				check(body)
			}
		}
	}
}
