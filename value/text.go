package value

import (
	"strconv"
	"strings"

	"foliot/api"
)

// hexDigits is the digits to the base 16.
const hexDigits = "0123456789abcdef"

// Quote: a text between quotes, all but plain signs written as numbers.
func Quote(s string) string { return string(appendQuote(nil, s)) }

func appendQuote(b []byte, s string) []byte {
	b = append(b, '"')
	for i := range len(s) {
		b = appendChar(b, s[i])
	}
	return append(b, '"')
}

func appendChar(b []byte, c byte) []byte {
	switch {
	case c == '"' || c == '\\':
		return append(b, '\\', c)
	case ' ' <= c && c <= '~':
		return append(b, c)
	}
	return append(b, '\\', 'x', hexDigits[c/16], hexDigits[c%16])
}

// Print: a value as a text.
func Print(v api.Value) string {
	if endless(v) {
		return ""
	}
	return string(appendPrint(nil, v))
}

func appendPrint(b []byte, v api.Value) []byte {
	switch v.Kind {
	case api.Int:
		return strconv.AppendInt(b, v.N, 10)
	case api.Text:
		return appendQuote(b, v.S)
	case api.List:
		return appendList(b, v.List)
	}
	return append(b, "nil"...)
}

func appendList(b []byte, l []api.Value) []byte {
	b = append(b, '[')
	for i, v := range l {
		if i > 0 {
			b = append(b, ' ')
		}
		b = appendPrint(b, v)
	}
	return append(b, ']')
}

// Parse: the value that a text is.
func Parse(s string) (api.Value, api.Errno) {
	p := parser{s: s}
	v := p.value(0)
	if p.at < len(s) {
		p.fail(api.ErrForm)
	}
	if p.err == api.OK {
		p.err = Check(v)
	}
	if p.err != api.OK {
		return api.Value{}, p.err
	}
	return v, api.OK
}

// parser goes through a text from the left; behind its first error nothing that it answers counts.
type parser struct {
	s   string
	at  int
	err api.Errno
}

// fail: the error is e, if there is none yet.
func (p *parser) fail(e api.Errno) {
	if p.err == api.OK {
		p.err = e
	}
}

// take: whether s comes next; if so it is gone by.
func (p *parser) take(s string) bool {
	if !strings.HasPrefix(p.s[p.at:], s) {
		return false
	}
	p.at += len(s)
	return true
}

// value: the next value, which stands in depth lists.
func (p *parser) value(depth int) api.Value {
	switch {
	case p.take("nil"):
		return api.Value{}
	case p.take("["):
		return api.Value{Kind: api.List, List: p.list(depth)}
	case p.take(`"`):
		return Text(p.text())
	}
	return Of(p.number())
}

// list: the values behind the beginning of a list, which stands in depth lists.
func (p *parser) list(depth int) []api.Value {
	if depth >= MaxDepth {
		p.fail(api.ErrDeep)
	}
	if p.take("]") {
		return nil
	}
	var l []api.Value
	for p.err == api.OK {
		l = append(l, p.value(depth+1))
		if p.take("]") {
			break
		}
		if !p.take(" ") {
			p.fail(api.ErrForm)
		}
	}
	return l
}

// text: the bytes up to the quotation mark that ends a text. There are more ways to write a byte than the one that Quote has: so the whole is held against that.
func (p *parser) text() string {
	start := p.at - 1
	var b []byte
	for p.err == api.OK && !p.take(`"`) {
		b = append(b, p.char())
	}
	s := string(b)
	if Quote(s) != p.s[start:p.at] {
		p.fail(api.ErrForm)
	}
	return s
}

// char: the next byte of a text.
func (p *parser) char() byte {
	c := p.next()
	if c != '\\' {
		return c
	}
	if c = p.next(); c != 'x' {
		return c
	}
	high := p.hexDigit()
	return high*16 + p.hexDigit()
}

func (p *parser) hexDigit() byte {
	d := strings.IndexByte(hexDigits, p.next())
	if d < 0 {
		p.fail(api.ErrForm)
		return 0
	}
	return byte(d)
}

// next: the next byte, which must be there.
func (p *parser) next() byte {
	if p.at == len(p.s) {
		p.fail(api.ErrForm)
		return 0
	}
	p.at++
	return p.s[p.at-1]
}

// number: the next number. That it has no needless sign or nought is asked of what it prints.
func (p *parser) number() int64 {
	start := p.at
	p.take("-")
	for p.at < len(p.s) && '0' <= p.s[p.at] && p.s[p.at] <= '9' {
		p.at++
	}
	digits := p.s[start:p.at]
	n, err := strconv.ParseInt(digits, 10, 64)
	if err != nil || strconv.FormatInt(n, 10) != digits {
		p.fail(api.ErrForm)
	}
	return n
}
