package image

import (
	"sync"

	"foliot/api"
	"foliot/event"
	"foliot/sum"
)

// Program is an image with its name; its sum is reckoned when it is asked first.
type Program struct {
	name  string
	image api.Image
	once  sync.Once
	sum   api.Sum
	bytes int
}

// New: an image that may be, by a name.
func New(name string, p api.Image) (*Program, api.Errno) {
	if len(name) > event.MaxName {
		return nil, api.ErrLong
	}
	if e := Check(p); e != api.OK {
		return nil, e
	}
	return &Program{name: name, image: Clone(p)}, api.OK
}

// Name, Image: a program's name, and its image.
func (p *Program) Name() string { return p.name }

func (p *Program) Image() api.Image { return Clone(p.image) }

// Sum: the SHA-256 of its name, a nought, and its image's bytes.
func (p *Program) Sum() api.Sum {
	p.reckon()
	return p.sum
}

// Bytes: how many bytes its image has.
func (p *Program) Bytes() int {
	p.reckon()
	return p.bytes
}

// reckon sees to it that the sum and the number of bytes are there.
func (p *Program) reckon() {
	p.once.Do(func() {
		b, _ := Encode(p.image) // New has checked it
		p.sum = sum.Of([]byte(p.name), []byte{0}, b)
		p.bytes = len(b)
	})
}
