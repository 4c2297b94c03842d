package wal

import "memoir/crc"

const (
	sumSize = 4
	maxBody = 123 // with its length and its sum it is a sector
)

// Seal is a body with its length and sum.
func Seal(body string) string {
	if len(body) > maxBody {
		return ""
	}
	return string([]byte{byte(len(body))}) + crc.Put(body)
}

// Unseal is a sealed sector's body.
func Unseal(s string) (string, bool) {
	if s == "" {
		return "", false
	}
	n := int(s[0])
	if n > maxBody || len(s) < 1+n+sumSize {
		return "", false
	}
	return crc.Take(s[1 : 1+n+sumSize])
}
