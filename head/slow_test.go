package head

import (
	"encoding/binary"
	"math"
	"math/big"
	"slices"

	"halftone/api"
)

// depths are those that go with each kind of colours.
func depths(color int) []int {
	switch color {
	case 0:
		return []int{1, 2, 4, 8, 16}
	case 2, 4, 6:
		return []int{8, 16}
	case 3:
		return []int{1, 2, 4, 8}
	}
	return nil
}

// slowMay is whether a head may be, the product told by numbers without bound.
func slowMay(h api.Head) bool {
	if h.W < 1 || h.W > 2048 || h.H < 1 || h.H > 2048 {
		return false
	}
	product := new(big.Int).Mul(big.NewInt(int64(h.W)), big.NewInt(int64(h.H)))
	return product.Cmp(big.NewInt(65536)) <= 0 && slices.Contains(depths(h.Color), h.Depth)
}

// ihdr is a head's bytes, whatever it is, as the lowest bits of its numbers tell them.
func ihdr(h api.Head) []byte {
	b := binary.BigEndian.AppendUint32(nil, uint32(h.W))
	b = binary.BigEndian.AppendUint32(b, uint32(h.H))
	b = append(b, byte(h.Depth), byte(h.Color), 0, 0, 0)
	if h.Laced {
		b[12] = 1
	}
	return b
}

func slowRead(b []byte) (api.Head, api.Errno) {
	if len(b) != 13 || b[10] != 0 || b[11] != 0 || b[12] > 1 {
		return api.Head{}, api.ErrHead
	}
	h := api.Head{
		W:     int(binary.BigEndian.Uint32(b)),
		H:     int(binary.BigEndian.Uint32(b[4:])),
		Depth: int(b[8]), Color: int(b[9]), Laced: b[12] == 1,
	}
	if !slowMay(h) {
		return api.Head{}, api.ErrHead
	}
	return h, api.OK
}

func slowReadTints(h api.Head, b []byte) ([]api.Tint, api.Errno) {
	if !slowMay(h) {
		return nil, api.ErrHead
	}
	most := map[int]int{2: 256, 6: 256, 3: int(math.Pow(2, float64(h.Depth)))}[h.Color]
	var l []api.Tint
	for ; len(b) >= 3; b = b[3:] {
		l = append(l, api.Tint{R: b[0], G: b[1], B: b[2]})
	}
	if len(b) != 0 || len(l) == 0 || len(l) > most {
		return nil, api.ErrPalette
	}
	return l, api.OK
}

func slowReadClear(h api.Head, tints int, b []byte) (alpha, samples []int, e api.Errno) {
	if !slowMay(h) {
		return nil, nil, api.ErrHead
	}
	switch h.Color {
	case 3:
		for _, v := range b {
			alpha = append(alpha, int(v))
		}
		if len(alpha) == 0 || len(alpha) > max(tints, 0) {
			return nil, nil, api.ErrPalette
		}
		return alpha, nil, api.OK
	case 0, 2:
		if len(b) != map[int]int{0: 2, 2: 6}[h.Color] {
			return nil, nil, api.ErrPalette
		}
		for ; len(b) > 0; b = b[2:] {
			v := int(b[0])*256 + int(b[1])
			if v >= int(math.Pow(2, float64(h.Depth))) {
				return nil, nil, api.ErrPalette
			}
			samples = append(samples, v)
		}
		return nil, samples, api.OK
	}
	return nil, nil, api.ErrPalette
}
