package tarfmt

import (
	"strconv"
	"strings"

	"wainload/api"
	"wainload/fields"
	"wainload/names"
)

// Records writes keys and values; Parse reads them.
func Records(l [][2]string) string {
	var all strings.Builder
	for _, r := range l {
		body := " " + r[0] + "=" + r[1] + "\n"
		all.WriteString(strconv.Itoa(sizeWith(len(body))) + body)
	}
	return all.String()
}

// sizeWith is the least number that counts its own digits beside so many bytes.
func sizeWith(body int) int {
	n := body + 1
	for n != body+len(strconv.Itoa(n)) {
		n++
	}
	return n
}

func Parse(s string) ([][2]string, bool) {
	var l [][2]string
	for rest := s; rest != ""; {
		var body string
		var is bool
		if body, rest, is = cutRecord(rest); !is {
			return nil, false
		}
		key, text, is := strings.Cut(body, "=")
		if !is || key == "" {
			return nil, false
		}
		l = append(l, [2]string{key, text})
	}
	return l, true
}

// cutRecord tells what stands between the blank and the last byte of the first record, and what is behind it.
func cutRecord(s string) (body, rest string, is bool) {
	digits, _, is := strings.Cut(s, " ")
	if !is || digits == "" || digits[0] < '1' || digits[0] > '9' {
		return "", "", false
	}
	ahead := len(digits) + len(" ")
	size, err := fields.Decimal(digits)
	if err != api.OK || size <= ahead || size > len(s) || s[size-1] != '\n' {
		return "", "", false
	}
	return s[ahead : size-1], s[size:], true
}

// known are the last values of the keys that came.
type known map[string]value

// value is what a record says: a name is a text, a size or a time a number.
type value struct {
	text   string
	number int64
	err    api.Errno // what is amiss with it, told only where it is asked for
}

// lay puts what records say, if s is a text of these.
func (k known) lay(s string) api.Errno {
	l, is := Parse(s)
	if !is {
		return api.ErrTarForm
	}
	for _, r := range l {
		k.put(r[0], r[1])
	}
	return api.OK
}

// put reads a text at once: it may be long, and many entries may ask for it.
func (k known) put(key, text string) {
	var v value
	switch key {
	case keyName:
		v.text, v.err = names.Clean(text)
	case keyTarget:
		v.text = text
	case keySize:
		v.number, v.err = sizeIn(text)
	case keyTime:
		v.number, v.err = timeIn(text)
	default: // none that counts; a map that once held many would be slow to clear
		return
	}
	k[key] = v
}

func sizeIn(text string) (int64, api.Errno) {
	size, err := fields.Decimal(text)
	if err != api.OK {
		return 0, api.ErrTarForm
	}
	return int64(size), api.OK
}

func timeIn(text string) (int64, api.Errno) {
	t, err := fields.Seconds(text)
	switch err {
	case api.ErrFieldForm:
		return 0, api.ErrTarForm
	case api.ErrFieldOver:
		return 0, api.ErrTimeOver
	}
	return t, api.OK
}
