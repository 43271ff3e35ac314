package bus

import (
	"moonpool/api"
	"moonpool/rules"
)

// The bytes of a frame.
const (
	sourceByte = iota
	numberByte
	kindByte
	dataByte      // the first one of Data
	remainderByte = dataByte + api.BusData
)

// byteBits is how many bits a byte has.
const byteBits = 8

// CheckMessage is in P7.1.
func CheckMessage(m api.BusMessage) api.Errno {
	return rules.FirstError(
		rules.LimitError(m.Source, 0, api.BusSources-1),
		rules.LimitError(m.Kind, 0, api.BusKinds-1),
		byteError(m.Number),
		bytesError(m.Data[:]),
	)
}

// RemainderOf is in P7.1.
func RemainderOf(l []int) (int, api.Errno) {
	if _, e := rules.CheckList(l, 0, api.MaxBusBytes, byteError); e != api.OK {
		return 0, e
	}
	return remainder(l), api.OK
}

// Encoded is in P7.1.
func Encoded(m api.BusMessage) ([api.BusBytes]int, api.Errno) {
	if e := CheckMessage(m); e != api.OK {
		return [api.BusBytes]int{}, e
	}
	f := [api.BusBytes]int{sourceByte: m.Source, numberByte: m.Number, kindByte: m.Kind}
	copy(f[dataByte:], m.Data[:])
	f[remainderByte] = remainder(f[:remainderByte])
	return f, api.OK
}

// Decoded is in P7.1.
func Decoded(f [api.BusBytes]int) (api.BusMessage, api.Errno) {
	if e := bytesError(f[:]); e != api.OK {
		return api.BusMessage{}, e
	}
	if f[remainderByte] != remainder(f[:remainderByte]) {
		return api.BusMessage{}, api.ErrProof
	}
	m := api.BusMessage{Source: f[sourceByte], Number: f[numberByte], Kind: f[kindByte]}
	copy(m.Data[:], f[dataByte:])
	if e := CheckMessage(m); e != api.OK {
		return api.BusMessage{}, e
	}
	return m, api.OK
}

func byteError(n int) api.Errno { return rules.LimitError(n, 0, api.BusByte-1) }

func bytesError(l []int) api.Errno {
	_, e := rules.FirstBad(l, byteError)
	return e
}

// remainder is that of bytes.
func remainder(l []int) int {
	r := 0
	for _, b := range l {
		r ^= b
		for range byteBits {
			r *= 2
			if r >= api.BusByte {
				r ^= api.BusPolynomial
			}
		}
	}
	return r
}
