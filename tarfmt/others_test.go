package tarfmt_test

import (
	stdtar "archive/tar"
	"bytes"
	"compress/gzip"
	"encoding/base64"
	"fmt"
	"io"
	"math/rand"
	"strings"
	"testing"
	"time"

	"wainload/api"
	"wainload/tarfmt"
)

// What others write and read, held against Go's own library.

// goReads tells the entries that Go's library finds.
func goReads(t *testing.T, b []byte) []api.Entry {
	t.Helper()
	var l []api.Entry
	for r := stdtar.NewReader(bytes.NewReader(b)); ; {
		h, err := r.Next()
		if err == io.EOF {
			return l
		}
		if err != nil {
			t.Error(err)
			return l
		}
		data, err := io.ReadAll(r)
		if err != nil {
			t.Error(err)
		}
		kind := map[byte]int{stdtar.TypeReg: api.File, stdtar.TypeDir: api.Folder, stdtar.TypeSymlink: api.Link}[h.Typeflag]
		l = append(l, api.Entry{Kind: kind, Path: h.Name, Target: h.Linkname, Mode: int(h.Mode), Time: h.ModTime.Unix()*sec + int64(h.ModTime.Nanosecond()), Data: string(data)})
	}
}

// goWrites tells an archive of such a form; whole seconds, where that form has no others.
func goWrites(t *testing.T, format stdtar.Format, l []api.Entry) []byte {
	t.Helper()
	var b bytes.Buffer
	w := stdtar.NewWriter(&b)
	for _, e := range l {
		h := &stdtar.Header{
			Typeflag: map[int]byte{api.File: stdtar.TypeReg, api.Folder: stdtar.TypeDir, api.Link: stdtar.TypeSymlink}[e.Kind], Name: e.Path, Linkname: e.Target, Mode: int64(e.Mode), Size: int64(len(e.Data)),
			ModTime: time.Unix(e.Time/sec, e.Time%sec), Uid: 1000, Gid: 1000, Uname: "wain", Gname: "load", Format: format,
		}
		if e.Kind == api.Folder {
			h.Name += "/"
		}
		if format == stdtar.FormatGNU { // it has these where others have a prefix
			h.AccessTime, h.ChangeTime = time.Unix(1234567890, 0), time.Unix(1234567891, 0)
		}
		if err := w.WriteHeader(h); err != nil {
			t.Fatal(err, shown([]api.Entry{e}))
		}
		if _, err := w.Write([]byte(e.Data)); err != nil {
			t.Fatal(err)
		}
	}
	if err := w.Close(); err != nil {
		t.Fatal(err)
	}
	return b.Bytes()
}

func TestOthersReadWhatIsWritten(t *testing.T) { // P17.3
	c := chance{rand.New(rand.NewSource(19))}
	for n := range 3000 {
		l := c.tree()
		b, is := tarfmt.Write(l)
		if got := goReads(t, b); !is || fmt.Sprint(got) != fmt.Sprint(l) {
			t.Errorf("tree %d: %s; want %s", n, shown(got), shown(l))
		}
	}
}

func TestReadOfWhatOthersWrite(t *testing.T) { // P17.2
	c := chance{rand.New(rand.NewSource(20))}
	for n := range 2000 {
		l := c.tree()
		plain, whole := []api.Entry{}, []api.Entry{}
		for _, e := range l {
			e.Time = max(e.Time, 0) // Go's pax times below 0 are tested above
			plain = append(plain, e)
			e.Time -= e.Time % sec
			whole = append(whole, e)
		}
		tells(t, fmt.Sprint("pax, tree ", n), string(goWrites(t, stdtar.FormatPAX, plain)), plenty, plenty, plain...)
		tells(t, fmt.Sprint("GNU's, tree ", n), string(goWrites(t, stdtar.FormatGNU, whole)), plenty, plenty, whole...)
	}
}

// Names that need a prefix: the form that has no records and no names of GNU's.
func TestReadOfPrefixesThatOthersWrite(t *testing.T) { // P17.2
	p, n := strings.Repeat("p", 90), strings.Repeat("n", 90)
	l := []api.Entry{folder(p), folder(p + "/" + n), file(p+"/"+n+"/f", "data"), link(p+"/"+n+"/"+n[:9], strings.Repeat("t", 100)), folder("z")}
	tells(t, "ustar", string(goWrites(t, stdtar.FormatUSTAR, l)), plenty, plenty, l...)
}

// What GNU tar 1.34 wrote of one folder, made small: under its own mark, with its long names; and with records, those of all entries ahead.
const (
	gnuTar = "H4sIAAAAAAACA+2Yy46CQBBFa+1X9BdAVb9q615+ggQfREIbhMzvT2ti4iNBF9I4Tp1NkdC7y+1Dqqq7HCYGI+zcaRI7vJ4XgKzTlhltfEZCzR6UgwQMx77slIKfsm7HzjWhrOD7qGL+mwT5e4sj+fv7/K2J+aPkPzm7ddOEBQj/lCzP8mUR2m1Rt/tJ+28vfb+fqI25cQESeSRQRcr+dyH0Y+eevf/D93/7kUg3vyX/c/9xzP/21v/Gstfi/xQ08eqXFoj/Z/U/PvjfsQO1Ev9PTj870sG5/d+HBPsf5tf3P4bNyf86xecn+598OHxY/kSaTMw/i3bK5P9PEARBEN7NL+gY8yUAHAAA"
	paxTar = "H4sIAAAAAAACA+2ZS26DMBRFPc4qvALy/HuvHWQxqEkJKp8oIWqWX4MUKR+JdlBM2twzsYSQAMG9xzaFmh6KsPfDGLkdiSwpE6xIIBax8TjbwEoXCe5NHQ9dvo+XVM+JYf3W1vWm6VafedksFHgqTo+Qf8fK+GC9CPnhODtDSp+Q/8lxpOuurDcrI+e3kRnrfGB5eUUb/HvW5X6ZIv8SQj+a6PjL8cx1/o0JEv0fUua/t9/YeVWbr797yMtyQ/+j/9H/4A/0/3uS/NNI//Nt/0usBE0p8/+k/b/dVFWLnGP9N6P/Hdk7/5OH/1Ng2Otd3m1XvQiah2SBOcq0/p/6BQ75pzH/++v8O7Zs4f8UVG1TIAXw/5z+73/23K3/4f80/vdeV2XzMcwButmB62fwf9dOn38R+fn+ryfu/W9TfHHY/529/7H/Ox/oW/T/cfdg/W9sMC72f5YtswzrPwAAAOC3+QLfiXcsACwAAA=="
)

// unpacked is what such a text was made of.
func unpacked(t *testing.T, s string) string {
	t.Helper()
	small, err := base64.StdEncoding.DecodeString(s)
	if err != nil {
		t.Fatal(err)
	}
	r, err := gzip.NewReader(bytes.NewReader(small))
	if err != nil {
		t.Fatal(err)
	}
	b, err := io.ReadAll(r)
	if err != nil {
		t.Fatal(err)
	}
	return string(b)
}

func TestReadOfWhatGnuTarWrote(t *testing.T) { // P17.2
	const at = 1700000000 * sec
	want := func(t int64) []api.Entry {
		return []api.Entry{
			{Kind: api.Folder, Path: "dir", Mode: 0755, Time: t}, {Kind: api.File, Path: "dir/f", Mode: 0640, Time: t, Data: "hello\n"}, {Kind: api.File, Path: "dir/" + strings.Repeat("n", 150), Mode: 0600, Time: t, Data: "long"},
			{Kind: api.Link, Path: "dir/to", Mode: 0777, Time: t, Target: strings.Repeat("t", 130)}, {Kind: api.Link, Path: "dir/up", Mode: 0777, Time: t, Target: "../.."},
		}
	}
	tells(t, "GNU's", unpacked(t, gnuTar), 10, 5, want(at)...)
	tells(t, "pax", unpacked(t, paxTar), 10, 5, want(at+123456789)...)
	for _, s := range []string{unpacked(t, gnuTar), unpacked(t, paxTar)} {
		refuses(t, "a byte too many", s, 9, 5, api.ErrTreeOver)
		refuses(t, "an entry too many", s, 10, 4, api.ErrTreeOver)
		for at := range 512 { // a header another one, somewhere within
			b := []byte(s)
			b[1024+at]++
			likeModel(t, "turned", string(b), plenty, plenty)
		}
	}
}
