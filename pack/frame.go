package pack

import "chancel/api"

const maxFramed = 65000

// crcOfHalf tells what four bits come to; those of a whole byte would be too great a table to stand here.
var crcOfHalf = [16]uint32{
	0x00000000, 0x105EC76F, 0x20BD8EDE, 0x30E349B1,
	0x417B1DBC, 0x5125DAD3, 0x61C69362, 0x7198540D,
	0x82F63B78, 0x92A8FC17, 0xA24BB5A6, 0xB21572C9,
	0xC38D26C4, 0xD3D3E1AB, 0xE330A81A, 0xF36E6F75,
}

// Frame puts the Crc of b ahead of it.
func Frame(b []byte) ([]byte, api.Errno) {
	if len(b) > maxFramed {
		return nil, api.ErrLong
	}
	framed := make([]byte, crcSize+len(b))
	w := writer{room: framed}
	w.number(int(Crc(b)), crcSize)
	w.put(b...)
	return framed, api.OK
}

// Unframe tells what stands in a frame.
func Unframe(b []byte) ([]byte, api.Errno) {
	r := reader{rest: b}
	sum := uint32(r.number(crcSize))
	if r.cut {
		return nil, api.ErrCut
	}
	if sum != Crc(r.rest) {
		return nil, api.ErrBad
	}
	return copyOf(r.rest), api.OK
}

// Crc tells the CRC-32C of b.
func Crc(b []byte) uint32 {
	sum := ^uint32(0)
	for _, one := range b {
		sum ^= uint32(one)
		sum = sum>>4 ^ crcOfHalf[sum&15]
		sum = sum>>4 ^ crcOfHalf[sum&15]
	}
	return ^sum
}
