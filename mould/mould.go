// Package mould is layer 1: see shared/doc/01-mould.md.
package mould

import (
	"strings"

	"wainwright/api"
)

// longest is the greatest length that Text and Pad may be asked for.
const longest = 1000

func Size(widths []int) int {
	total := 0
	for _, width := range widths {
		if !isWidth(width) {
			return -1
		}
		total += width
	}
	return total
}

func Write(widths, values []int) (string, api.Errno) {
	size := Size(widths)
	if size < 0 || len(values) != len(widths) {
		return "", api.ErrArg
	}
	record := make([]byte, 0, size)
	for i, width := range widths {
		if !fits(values[i], width) {
			return "", api.ErrRange
		}
		record = appendField(record, values[i], width)
	}
	return string(record), api.OK
}

func Read(widths []int, s string) ([]int, api.Errno) {
	size := Size(widths)
	if size < 0 {
		return nil, api.ErrArg
	}
	if len(s) < size {
		return nil, api.ErrShort
	}
	values := make([]int, len(widths))
	at := 0
	for i, width := range widths {
		values[i] = field(s[at : at+width])
		at += width
	}
	return values, api.OK
}

func Text(s string, n int) (string, api.Errno) {
	padded, err := Pad(s, n)
	if err != api.OK {
		return "", err
	}
	// Untext could not tell a zero byte of the text from the padding.
	if strings.IndexByte(s, 0) >= 0 {
		return "", api.ErrRange
	}
	return padded, api.OK
}

func Untext(s string) (string, api.Errno) {
	end := strings.IndexByte(s, 0)
	if end < 0 {
		end = len(s)
	}
	if !allZero(s[end:]) {
		return "", api.ErrCorrupt
	}
	// A cut of s would share its memory.
	return strings.Clone(s[:end]), api.OK
}

func Pad(s string, n int) (string, api.Errno) {
	if n < 0 || n > longest {
		return "", api.ErrArg
	}
	if len(s) > n {
		return "", api.ErrRange
	}
	padded := make([]byte, n)
	copy(padded, s)
	return string(padded), api.OK
}

func isWidth(width int) bool {
	return width == 1 || width == 2 || width == 4
}

// fits shifts the value down rather than the bound up, which would not fit
// an int of 32 bits for a field of 4 bytes.
func fits(value, width int) bool {
	return value >= 0 && value>>(8*width) == 0
}

func appendField(record []byte, value, width int) []byte {
	for range width {
		record = append(record, byte(value))
		value >>= 8
	}
	return record
}

func field(s string) int {
	value := 0
	for i := len(s) - 1; i >= 0; i-- {
		value = value<<8 | int(s[i])
	}
	return value
}

func allZero(s string) bool {
	for i := range len(s) {
		if s[i] != 0 {
			return false
		}
	}
	return true
}
