package jour

import (
	"bytes"
	"slices"

	"kist/api"
	"kist/fit"
	"kist/sum"
	"kist/word"
)

const (
	lastKind  = api.NoteTomb
	maxPlaces = api.N * api.MaxGroups
	headLen   = 8 // the length of the encoding, and the checksum
	lengthLen = 4
)

// Encode returns the encoding of n.
func Encode(n api.Note) ([]byte, api.Errno) {
	if !valid(n) {
		return nil, api.ErrForm
	}
	b := word.Put(nil, n.Kind)
	b = word.Text(b, n.Key)
	b = word.Put(b, n.Gen)
	b = word.Put(b, n.Cart)
	b = word.Text(b, string(n.Data))
	b = word.Text(b, n.Sum)
	b = word.Put(b, n.Size)
	b = word.Put(b, len(n.Places))
	for _, place := range n.Places {
		b = append(b, word.Put(word.Put(nil, place.Cart), place.Pos)...)
	}
	return b, api.OK
}

func valid(n api.Note) bool {
	return fit.In(n.Kind, 1, lastKind) &&
		len(n.Key) <= api.MaxKey &&
		fit.In(n.Gen, 0, api.MaxGen) &&
		fit.In(n.Cart, 0, api.MaxCarts-1) &&
		len(n.Data) <= api.MaxBlob &&
		len(n.Sum) <= api.SumLen &&
		fit.In(n.Size, 0, api.MaxBlob) &&
		len(n.Places) <= maxPlaces &&
		!slices.ContainsFunc(n.Places, func(p api.Place) bool {
			return !fit.In(p.Cart, 0, api.MaxCarts-1) || !fit.In(p.Pos, 0, api.MaxRecs)
		})
}

// Decode returns the valid note whose encoding is exactly b.
func Decode(b []byte) (api.Note, api.Errno) {
	r := word.New(b)
	n := api.Note{Kind: r.Get(lastKind), Key: r.Text(api.MaxKey), Gen: r.Get(api.MaxGen), Cart: r.Get(api.MaxCarts - 1)}
	n.Data, n.Sum, n.Size = []byte(r.Text(api.MaxBlob)), r.Text(api.SumLen), r.Get(api.MaxBlob)
	for range r.Get(maxPlaces) {
		n.Places = append(n.Places, api.Place{Cart: r.Get(api.MaxCarts - 1), Pos: r.Get(api.MaxRecs)})
	}
	if !r.End() || !valid(n) {
		return api.Note{}, api.ErrForm
	}
	return n, api.OK
}

// Same reports whether a and b agree in every field.
func Same(a, b api.Note) bool {
	return a.Kind == b.Kind && a.Key == b.Key && a.Gen == b.Gen && a.Cart == b.Cart &&
		bytes.Equal(a.Data, b.Data) && a.Sum == b.Sum && a.Size == b.Size && slices.Equal(a.Places, b.Places)
}

// Scan returns the notes whose frames b begins with, and the length of these frames.
func Scan(b []byte) ([]api.Note, int) {
	var notes []api.Note
	length := 0
	for {
		n, more := leadingNote(b[length:])
		if more == 0 {
			return notes, length
		}
		notes = append(notes, n)
		length += more
	}
}

// leadingNote returns the note whose frame b begins with, and the frame's length, which is 0 if there is none.
func leadingNote(b []byte) (api.Note, int) {
	if len(b) < headLen {
		return api.Note{}, 0
	}
	length := int(b[0]) | int(b[1])<<8 | int(b[2])<<16 | int(b[3])<<24
	if length > len(b)-headLen {
		return api.Note{}, 0
	}
	end := headLen + length
	n, e := Decode(b[headLen:end])
	if e != api.OK || !bytes.Equal(frame(b[headLen:end]), b[:end]) {
		return api.Note{}, 0
	}
	return n, end
}

// frame returns the frame of a note's encoding.
func frame(encoding []byte) []byte {
	length := littleEndian(uint32(len(encoding)))
	crc := littleEndian(sum.Of(slices.Concat(length, encoding)))
	return slices.Concat(length, crc, encoding)
}

func littleEndian(n uint32) []byte {
	b := make([]byte, lengthLen)
	for i := range b {
		b[i] = byte(n >> (8 * i))
	}
	return b
}
