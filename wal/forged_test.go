package wal_test

import (
	"math"
	"slices"
	"strings"
	"testing"

	"memoir/api"
	"memoir/disk"
	"memoir/wal"
)

// uvarint is a Uint's bytes, as the tests themselves write it.
func uvarint(n int) string {
	if n < 128 {
		return string([]byte{byte(n)})
	}
	return string([]byte{byte(n)&127 | 128}) + uvarint(n>>7)
}

// forge is a disk of these bodies' sectors.
func forge(t *testing.T, bodies ...string) *disk.Disk {
	t.Helper()
	d := newDisk(t, len(bodies))
	for at, body := range bodies {
		d.Write(at, sealed(body))
	}
	d.Flush()
	return d
}

// checkSlots opens a log with these sectors as its slots: the turn that is told is one less than Gen, the base stands in the slot that Open writes.
func checkSlots(t *testing.T, zero, one string, turn, base int) {
	t.Helper()
	d := newDisk(t, 4)
	d.Write(0, zero)
	d.Write(1, one)
	checkLog(t, open(t, d), turn+1, 0)
	checkSector(t, d, (turn+1)%2, "S"+uvarint(turn+1)+uvarint(base))
}

func TestSlots(t *testing.T) { // P8.2
	s := func(turn, base int) string { return sealed("S" + uvarint(turn) + uvarint(base)) }
	checkSlots(t, s(8, 3), s(7, 5), 8, 3)
	checkSlots(t, s(7, 5), s(8, 3), 8, 3) // wherever they stand
	checkSlots(t, s(6, 0), s(1, 1), 6, 0)
	checkSlots(t, s(5, 2), s(5, 4), 5, 2) // alike: the first one
	checkSlots(t, s(5, 5), s(5, 4), 5, 5)
	checkSlots(t, s(0, 0), s(1, 1), 1, 1)
	checkSlots(t, s(0, 0), s(0, 0), 0, 0)
	checkSlots(t, s(9, 9)+"xyz", s(8, 8), 9, 9) // it begins with its Seal
	checkSlots(t, s(300, 129), s(299, 299), 300, 129)
	checkSlots(t, s(1<<40, 1<<40), s(5, 5), 1<<40, 1<<40)
	checkSlots(t, s(5, 5), s(1<<40, 0), 1<<40, 0)
	checkSlots(t, s(1<<40+1, 7), s(5, 4), 5, 4)
	checkSlots(t, s(5, 4), s(1<<40+1, 1<<40+1), 5, 4)
	checkSlots(t, s(1<<40+1, 0), s(1<<41, 0), 0, 0)
	checkSlots(t, s(9, 10), s(5, 4), 5, 4)
	checkSlots(t, s(9, 1<<40), s(5, 4), 5, 4)
	checkSlots(t, s(9, 10), s(10, 11), 0, 0)
	checkSlots(t, s(0, 1), "", 0, 0)
	checkSlots(t, "", "", 0, 0)
	checkSlots(t, s(4, 1), "", 4, 1)
	checkSlots(t, "", s(4, 1), 4, 1)
}

func TestSlotsOfOtherBodies(t *testing.T) { // P8.2
	good := sealed("S\x05\x04")
	tens := "\xff\xff\xff\xff\xff\xff\xff\xff\xff\x01" // 2^64 - 1
	for _, body := range []string{
		"", "S", "S\x09", "S\x89", "S\x09\x81", "S\x09\x04\x00", "S\x09\x04\x04", "S\x09\x04S", // too short, too long
		"s\x09\x04", "L\x09\x04", "\x09\x04", "T\x09\x04", "SS\x09\x04", "\x00S\x09\x04",
		"S\x89\x00\x04", "S\x09\x84\x00", "S\x80\x00\x00", // not as few bytes as can be
		"S" + tens + "\x04", "S\x09" + tens, "S" + tens + tens, "S" + uvarint(math.MaxInt) + "\x00",
		"S\xff\xff\xff\xff\xff\xff\xff\xff\xff\x02\x04", "S\x80\x80\x80\x80\x80\x80\x80\x80\x80\x80\x01\x00", // no Uint
		"S\x80\x80\x80\x80\x80\x80\x80\x80\x80\x01\x80\x80\x80\x80\x80\x80\x80\x80\x80\x01", // 2^63
		"L\x09\x00\x00\x00\x00\x00\x00",
	} {
		checkSlots(t, sealed(body), good, 5, 4)
		checkSlots(t, good, sealed(body), 5, 4)
		checkSlots(t, sealed(body), sealed(body), 0, 0)
	}
	for i := range sealed("S\x09\x04") {
		l := []byte(sealed("S\x09\x04"))
		l[i] ^= 64
		checkSlots(t, string(l), good, 5, 4)
	}
}

// part is a place's body, of turn 5 to 9 and more.
func part(turn, at, more int, record, text string) string {
	return "L" + uvarint(turn) + uvarint(at) + uvarint(more) + sum(record) + text
}

// ahead is two slots (turn 9, base 5) and two places: a record of one part, of turn 6, and the first part of a long one, of turn 7.
func ahead() []string {
	long := mixed(150)
	return []string{"S\x08\x00", "S\x09\x05", part(6, 0, 0, "one", "one"), part(7, 1, 1, long, long[:100])}
}

func checkForged(t *testing.T, bodies []string, used int, records ...string) {
	t.Helper()
	d := forge(t, bodies...)
	checkLog(t, open(t, d), 10, used, records...)
	checkSector(t, d, 0, "S\x0a\x05")
	for at, body := range bodies[1:] { // nothing else is written
		checkSector(t, d, at+1, body)
	}
}

// TestPlaces lays a place behind those ahead that goes with them, or does not.
func TestPlaces(t *testing.T) { // P8.2
	long := mixed(150)
	rest := long[100:]
	good := append(ahead(), part(7, 2, 0, long, rest))
	checkForged(t, good, 3, "one", long)
	checkForged(t, append(good, part(7, 3, 0, "", "")), 4, "one", long, "")
	checkForged(t, append(good, part(9, 3, 0, "z", "z")), 4, "one", long, "z")
	checkForged(t, append(good, part(6, 3, 0, "z", "z")), 3, "one", long)
	checkForged(t, append(good, part(10, 3, 0, "z", "z")), 3, "one", long)
	checkForged(t, append(good, part(8, 3, 0, "z", "z"), part(7, 4, 0, "y", "y")), 4, "one", long, "z")
	for _, body := range []string{
		"", "L", rest, "S\x07\x02",
		part(7, 1, 0, long, rest), part(7, 3, 0, long, rest), part(7, 0, 0, long, rest), part(7, 130, 0, long, rest), // another place's
		part(6, 2, 0, long, rest), part(8, 2, 0, long, rest), part(9, 2, 0, long, rest), part(10, 2, 0, long, rest), // another turn
		part(7, 2, 0, "one", rest), part(7, 2, 0, rest, rest), part(7, 2, 0, "", rest), // another sum
		part(7, 2, 0, long, rest[1:]), part(7, 2, 0, long, rest[:49]), part(7, 2, 0, long, rest+"\x00"), part(7, 2, 0, long, ""), part(7, 2, 0, long, mixed(50)), // not of that sum
		part(7, 2, 1, long, rest), part(7, 2, 2, long, rest), part(7, 2, 128, long, rest), part(7, 2, math.MaxInt, long, rest),
		part(7, 2, 0, long, rest)[1:], "S" + part(7, 2, 0, long, rest)[1:], "l" + part(7, 2, 0, long, rest)[1:],
		"L\x87\x00\x02\x00" + sum(long) + rest, "L\x07\x82\x00\x00" + sum(long) + rest, "L\x07\x02\x80\x00" + sum(long) + rest,
		"L\x07\x02\x00" + sum(long)[:3], "L\x07\x02\x00", "L\x07\x02", "L\x07",
	} {
		checkForged(t, append(ahead(), body), 1, "one")
		checkForged(t, append(ahead(), body, part(7, 3, 0, long, rest)), 1, "one")
		checkForged(t, append(ahead(), body, part(7, 3, 0, "z", "z")), 1, "one") // what stands behind is not the log's
	}
	checkForged(t, ahead(), 1, "one") // the places end ahead of the record
}

// TestFirstPlace has a place 0 of each turn: there is none ahead of it, from the base to the turn it is the log's.
func TestFirstPlace(t *testing.T) { // P8.2
	for turn := range 15 {
		bodies := []string{"S\x08\x00", "S\x09\x05", part(turn, 0, 0, "a", "a"), part(turn, 1, 0, "b", "b")}
		if turn < 5 || turn > 9 {
			checkForged(t, bodies, 0)
		} else {
			checkForged(t, bodies, 2, "a", "b")
		}
	}
	for _, turn := range []string{"\x87\x80\x80\x80\x80\x80\x80\x80\x80\x01", "\xff\xff\xff\xff\xff\xff\xff\xff\xff\x01", uvarint(math.MaxInt), uvarint(1<<40 + 1)} {
		checkForged(t, []string{"S\x08\x00", "S\x09\x05", "L" + turn + "\x00\x00" + sum("a") + "a", ""}, 0)
	}
	for _, at := range []string{"\x80\x80\x80\x80\x80\x80\x80\x80\x80\x01", uvarint(1 << 32), "\xff\xff\xff\xff\xff\xff\xff\xff\xff\x01"} {
		checkForged(t, []string{"S\x08\x00", "S\x09\x05", "L\x07" + at + "\x00" + sum("a") + "a", ""}, 0)
	}
}

// TestMissingNumber has place 0 without a number or two of its body: what stands there, a sum that begins as no Uint does, is not taken for what stands behind a 0.
func TestMissingNumber(t *testing.T) { // P8.2
	text := ""
	for n := 0; sum(text)[0] < 128 || sum(text)[1] != 0; n++ {
		text = uvarint(n)
	}
	for _, begin := range []string{"L", "L\x00", "L\x00\x00", "L\x02", "L\x02\x00"} {
		checkLog(t, open(t, forge(t, "S\x02\x00", "", begin+sum(text)+text, "")), 3, 0)
	}
	checkLog(t, open(t, forge(t, "S\x02\x00", "", "L\x02\x00\x00"+sum(text)+text, "")), 3, 1, text)
}

func TestPartLengths(t *testing.T) { // P8.2
	for n := range 115 {
		s := mixed(n)
		whole := []string{"S\x08\x00", "S\x09\x05", part(7, 0, 0, s, s), part(7, 1, 0, "z", "z")}
		first := []string{"S\x08\x00", "S\x09\x05", part(7, 0, 1, s+"z", s), part(7, 1, 0, s+"z", "z")}
		record := mixed(100) + s
		last := append(ahead()[:3], part(7, 1, 1, record, record[:100]), part(7, 2, 0, record, s))
		if n > 100 {
			checkForged(t, whole, 0)
			checkForged(t, last, 1, "one")
		} else {
			checkForged(t, whole, 2, s, "z")
		}
		if n > 0 && n <= 100 {
			checkForged(t, last, 3, "one", record)
		}
		if n == 100 {
			checkForged(t, first, 2, s+"z")
		} else {
			checkForged(t, first, 0)
		}
	}
}

// TestMiddlePart has a record of three parts, the middle one of each length.
func TestMiddlePart(t *testing.T) { // P8.2
	for _, n := range []int{0, 1, 50, 99, 100, 101, 110} {
		a, b, c := mixed(100), mixed(n), "c"
		record := a + b + c
		bodies := append(ahead()[:3], part(8, 1, 1, record, a), part(8, 2, 1, record, b), part(8, 3, 0, record, c))
		if n == 100 {
			checkForged(t, bodies, 4, "one", record)
		} else {
			checkForged(t, bodies, 1, "one")
		}
	}
}

// TestOtherBytes changes one byte of a log of three records: those ahead of it are left.
func TestOtherBytes(t *testing.T) { // P8.2
	long := mixed(120)
	bodies := []string{"S\x08\x00", "S\x09\x05", part(6, 0, 0, "a", "a"), part(7, 1, 1, long, long[:100]), part(7, 2, 0, long, long[100:]), part(9, 3, 0, "b", "b")}
	records, used := []string{"a", long, "b"}, []int{0, 1, 3, 4}
	for at, left := range []int{0, 1, 1, 2} {
		s := sealed(bodies[at+2])
		for i := range 128 {
			d := forge(t, bodies...)
			l := append([]byte(s), make([]byte, 128-len(s))...)
			l[i] ^= byte(1 << (i % 8))
			d.Write(at+2, string(l))
			left := left
			if i >= len(s) { // behind the Seal any byte may stand
				left = 3
			}
			checkLog(t, open(t, d), 10, used[left], records[:left]...)
		}
	}
}

// told is what a place tells, as the tests' own reader has it.
type told struct {
	turn, at, more int
	sum, text      string
}

// number takes a Uint off a text; that are small ones here.
func number(s string) (int, string, bool) {
	n := 0
	for i := range len(s) {
		n |= int(s[i]&127) << (7 * i)
		if s[i] < 128 {
			return n, s[i+1:], uvarint(n) == s[:i+1]
		}
	}
	return 0, "", false
}

func reads(sector string) (told, bool) {
	n := int(sector[0])
	if n > 123 || sealed(sector[1:1+n]) != sector[:n+5] || n == 0 || sector[1] != 'L' {
		return told{}, false
	}
	turn, s, a := number(sector[2 : 1+n])
	at, s, b := number(s)
	more, s, c := number(s)
	if !a || !b || !c || len(s) < 4 {
		return told{}, false
	}
	return told{turn, at, more, s[:4], s[4:]}, true
}

// plainRecords reads record by record, as the chapter's words tell it.
func plainRecords(t *testing.T, d *disk.Disk, turn, base int) ([]string, int) {
	t.Helper()
	var records []string
	used, least := 0, base
	for {
		record, end := "", -1
		for i := used; i+2 < d.Len(); i++ {
			p, ok := reads(read(t, d, i+2))
			if !ok || p.at != i || p.more > 1 || p.turn > turn || p.turn < least || len(p.text) > 100 {
				return records, used
			}
			if first, _ := reads(read(t, d, used+2)); p.turn != first.turn || p.sum != first.sum {
				return records, used
			}
			record, least = record+p.text, p.turn
			if p.more == 0 {
				end = i
				if sum(record) != p.sum {
					return records, used
				}
				break
			}
			if len(p.text) != 100 {
				return records, used
			}
		}
		if end < 0 {
			return records, used
		}
		records, used = append(records, record), end+1
	}
}

// body is a place's, mostly one that goes on with the record ahead of it.
func (c *chance) body(at, turn int, record string) string {
	n := 1 + (max(len(record), 1)-1)/100
	i := c.below(n)
	more := 1
	if i == n-1 {
		more = 0
	}
	text := record[100*i : min(100*i+100, len(record))]
	switch c.below(30) {
	case 0:
		turn = c.below(8)
	case 1:
		at++
	case 2:
		more = c.below(3)
	case 3:
		record += "x"
	case 4:
		text = mixed(1 + c.below(105))
	}
	return part(turn, at, more, record, text)
}

// TestMixedPlaces reads logs of places that are laid by chance, against the tests' own reader.
func TestMixedPlaces(t *testing.T) { // P8.2
	c := chance(3)
	records := []string{"", "a", mixed(100), mixed(101), mixed(200)}
	count := map[int]int{}
	for range 20000 {
		base := c.below(4)
		turn := base + c.below(5)
		bodies := []string{"", "S" + uvarint(turn) + uvarint(base)}
		now, record := base, records[c.below(5)]
		for at := range 6 {
			if c.below(3) == 0 {
				now, record = min(now+c.below(2), turn+1), records[c.below(5)]
			}
			bodies = append(bodies, c.body(at, now, record))
		}
		d := forge(t, bodies...)
		want, used := plainRecords(t, d, turn, base)
		checkLog(t, open(t, d), turn+1, used, want...)
		count[len(want)]++
		if t.Failed() {
			t.Fatalf("%q", bodies)
		}
	}
	for n := range 6 {
		if count[n] < 50 {
			t.Errorf("%d logs of %d records", count[n], n)
		}
	}
}

// TestStrange opens logs of sectors that are none of a log's.
func TestStrange(t *testing.T) { // P8.2, R1
	for _, s := range []string{strings.Repeat("\xff", 128), mixed(128), strings.Repeat("L", 128), strings.Repeat("S", 128), sealed(mixed(123)), sealed("L" + strings.Repeat("\x80", 100)), sealed("")} {
		d := newDisk(t, 5)
		for at := range 5 {
			checkError(t, "write", d.Write(at, s), api.OK)
		}
		l := open(t, d)
		checkLog(t, l, 1, 0)
		appendAll(t, l, "a", mixed(200))
		commit(t, l)
		crash(t, d)
		checkLog(t, open(t, d), 2, 3, "a", mixed(200))
	}
}

func TestOpenAgainTheSame(t *testing.T) { // R5
	d := forge(t, append(ahead(), part(7, 2, 0, mixed(150), mixed(150)[100:]))...)
	first, _ := wal.Open(d.Copy(), 0, d.Len())
	for range 3 {
		l, _ := wal.Open(d.Copy(), 0, d.Len())
		if !slices.Equal(l.Records(), first.Records()) || l.Gen() != first.Gen() || l.Used() != first.Used() {
			t.Error("another answer")
		}
	}
}
