package session

import (
	"seismonet/api"
	"seismonet/bits"
	"seismonet/common"
	"seismonet/crc"
	"seismonet/sender"
	"seismonet/span"
)

const (
	letterData    = 'D'
	letterStatus  = 'S'
	letterRequest = 'R'
	numberBytes   = 4
	sumBytes      = 4
	headBytes     = 1 + 2*numberBytes // of a data message or a status
	leastRequest  = 1 + sumBytes
	spanBytes     = 2 * numberBytes
	maxSpans      = 16 // of a request
)

// message returns a message without data behind its numbers.
func message(letter byte, numbers ...int) string {
	s := string([]byte{letter})
	for _, n := range numbers {
		s, _ = bits.Put(s, n, numberBytes)
	}
	return s
}

// open takes the checksum off a message, if it is right and the letter too.
func open(m string, letter byte, least int) (string, api.Errno) {
	if len(m) < least {
		return "", api.ErrTruncated
	}
	if !crc.Check(m) {
		return "", api.ErrChecksum
	}
	if m[0] != letter {
		return "", api.ErrFormat
	}
	return m[:len(m)-sumBytes], api.OK
}

// numberAt returns the i-th number behind the letter.
func numberAt(m string, i int) int {
	n, _ := bits.Get(m, 1+i*numberBytes, numberBytes)
	return n
}

// Data returns a data message.
func Data(seq, first int, data string) (string, api.Errno) {
	if !common.Within(seq, 0, api.MaxSeq) || !common.Within(first, 0, api.MaxSeq+1) {
		return "", api.ErrRange
	}
	if len(data) > api.MaxMessage-headBytes-sumBytes {
		return "", api.ErrLimit
	}
	return crc.Append(message(letterData, seq, first) + data), api.OK
}

// ParseData returns what a data message says.
func ParseData(m string) (seq, first int, data string, e api.Errno) {
	m, e = open(m, letterData, headBytes+sumBytes)
	if e != api.OK {
		return 0, 0, "", e
	}
	seq, first = numberAt(m, 0), numberAt(m, 1)
	if seq > api.MaxSeq || first > api.MaxSeq+1 {
		return 0, 0, "", api.ErrFormat
	}
	return seq, first, m[headBytes:], api.OK
}

// Status returns the status of a sender.
func Status(s api.Sender) (string, api.Errno) {
	if !sender.Valid(s) {
		return "", api.ErrInvalid
	}
	return crc.Append(message(letterStatus, s.First, sender.Next(s))), api.OK
}

// ParseStatus returns what a status says.
func ParseStatus(m string) (first, next int, e api.Errno) {
	m, e = open(m, letterStatus, headBytes+sumBytes)
	if e != api.OK {
		return 0, 0, e
	}
	first, next = numberAt(m, 0), numberAt(m, 1)
	if len(m) != headBytes || next > api.MaxSeq+1 || first > next {
		return 0, 0, api.ErrFormat
	}
	return first, next, api.OK
}

// isSetBelow reports whether l is a set of numbers from 0 to next - 1.
func isSetBelow(l []api.Span, next int) bool {
	return span.Valid(l) && (len(l) == 0 || l[0].From >= 0 && l[len(l)-1].To <= next)
}

// Requests returns a request.
func Requests(next int, l []api.Span) (string, api.Errno) {
	if !common.Within(next, 0, api.MaxSeq+1) || !isSetBelow(l, next) {
		return "", api.ErrInvalid
	}
	if len(l) > maxSpans {
		return "", api.ErrLimit
	}
	var numbers []int
	for _, s := range l {
		numbers = append(numbers, s.From, s.To)
	}
	return crc.Append(message(letterRequest, numbers...)), api.OK
}

// ParseRequests returns the spans of a request.
func ParseRequests(m string) ([]api.Span, api.Errno) {
	m, e := open(m, letterRequest, leastRequest)
	if e != api.OK {
		return nil, e
	}
	if len(m)%spanBytes != 1 || len(m) > 1+maxSpans*spanBytes {
		return nil, api.ErrFormat
	}
	var l []api.Span
	for i := range len(m) / spanBytes {
		l = append(l, api.Span{From: numberAt(m, 2*i), To: numberAt(m, 2*i+1)})
	}
	if !isSetBelow(l, api.MaxSeq+1) {
		return nil, api.ErrFormat
	}
	return l, api.OK
}
