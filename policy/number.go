package policy

import "foliot/api"

// How many numbers each part of a policy's number has room for. The factor's has room for one more than there are factors.
const (
	triesRoom  = MaxTries + 1
	firstRoom  = MaxFirst + 1
	factorRoom = MaxFactor + 1
	mostRoom   = MaxDelay + 1
	limitRoom  = MaxTime + 1

	allRoom = triesRoom * firstRoom * factorRoom * mostRoom * limitRoom
)

// Number: a policy as a number: that with which programs tell it. 0 is one try, that takes as long as it likes.
func (p Policy) Number() (int64, api.Errno) {
	if e := p.Check(); e != api.OK {
		return 0, e
	}
	tries := int64(p.Tries) - 1
	if p.Tries == 0 {
		tries = MaxTries
	}
	n := p.Limit
	n = n*mostRoom + p.Most
	n = n*factorRoom + p.Factor - 1
	n = n*firstRoom + p.First
	return n*triesRoom + tries, api.OK
}

// Of: the policy of a number; what is more than a policy's is one try.
func Of(n int64) Policy {
	if n < 0 || n >= allRoom {
		return Policy{Tries: 1, Factor: 1}
	}
	part := func(room int64) int64 {
		low := n % room
		n /= room
		return low
	}
	p := Policy{Tries: int(part(triesRoom)) + 1}
	if p.Tries > MaxTries {
		p.Tries = 0
	}
	p.First = part(firstRoom)
	p.Factor = min(part(factorRoom)+1, MaxFactor)
	p.Most = part(mostRoom)
	p.Limit = part(limitRoom)
	return p
}
