package aof

import (
	"fmt"
	"math"
	"slices"
	"strings"
	"testing"

	"polyphony/api"
	"polyphony/crc"
	"polyphony/disk"
	"polyphony/event"
	"polyphony/frame"
)

const (
	// top is how many bytes a disk may have, as the document says it.
	top = 65536
	// most is how many bytes a snapshot may have, as the document says it.
	most = 65528
)

// answers holds an error's number against what it shall be.
func answers(t *testing.T, what string, got, want api.Errno) {
	t.Helper()
	if got != want {
		t.Errorf("%s: %d, not %d", what, got, want)
	}
}

// noise is text that looks like no pattern, the same one each time.
func noise(n int, seed uint32) string {
	b := make([]byte, n)
	for i := range b {
		seed = seed*1664525 + 1013904223
		b[i] = byte(seed >> 24)
	}
	return string(b)
}

// set is the n-th event of a replica, that sets a key.
func set(r, n int, value string) api.Event {
	e := api.Event{Dot: api.Dot{R: r, N: n}, Time: 9 * n, Op: api.Op{Kind: api.Set, Key: "k", Value: value}}
	e.Deps[r] = n - 1
	return e
}

// some is events of all kinds and sizes.
func some() []api.Event {
	first, behind := api.Dot{R: 3, N: 1}, api.VV{7, 0, 5, 1}
	next := api.Dot{R: 0, N: 8}
	long := strings.Repeat("\xff", 64)
	all := []api.Event{
		set(1, 1, "v"), set(0, 1, ""), set(15, 1<<20, long),
		{Dot: next, Time: 0, Deps: behind, Op: api.Op{Kind: api.Del, Key: "\x00"}},
		{Dot: next, Time: 1<<60 - 1, Deps: behind, Op: api.Op{Kind: api.HSet, Key: long, Field: long, Value: long}},
	}
	for _, op := range []api.Op{
		{Kind: api.Incr, Key: "a", Num: -1 << 40},
		{Kind: api.SAdd, Key: "b", Field: ""},
		{Kind: api.SRem, Key: "b", Field: "m"},
		{Kind: api.HSet, Key: "c", Field: "f", Value: "\x00\x01"},
		{Kind: api.HDel, Key: "c", Field: "f"},
		{Kind: api.ZAdd, Key: "d", Field: "m", Num: 1 << 40},
		{Kind: api.ZRem, Key: "d", Field: "m"},
		{Kind: api.Push, Key: "e", Value: "x"},
		{Kind: api.Push, Key: "e", Value: "y", Ref: first},
		{Kind: api.LRem, Key: "e", Ref: first},
	} {
		all = append(all, api.Event{Dot: next, Time: 77, Deps: behind, Op: op})
	}
	return all
}

// wrong is events that can't be.
func wrong() []api.Event {
	all := []api.Event{{}}
	for _, spoil := range []func(e *api.Event){
		func(e *api.Event) { e.Dot.N = 0 },
		func(e *api.Event) { e.Dot.N = 2 },
		func(e *api.Event) { e.Dot.R = 16 },
		func(e *api.Event) { e.Dot.R = -1 },
		func(e *api.Event) { e.Time = -1 },
		func(e *api.Event) { e.Time = 1 << 60 },
		func(e *api.Event) { e.Deps[1] = 1 },
		func(e *api.Event) { e.Deps[2] = -1 },
		func(e *api.Event) { e.Deps[2] = 1<<20 + 1 },
		func(e *api.Event) { e.Op.Kind = 0 },
		func(e *api.Event) { e.Op.Kind = 12 },
		func(e *api.Event) { e.Op.Key = "" },
		func(e *api.Event) { e.Op.Key = strings.Repeat("k", 65) },
		func(e *api.Event) { e.Op.Value = strings.Repeat("v", 65) },
		func(e *api.Event) { e.Op.Value = strings.Repeat("v", 70000) },
		func(e *api.Event) { e.Op.Field = "f" },
		func(e *api.Event) { e.Op.Num = 1 },
		func(e *api.Event) { e.Op.Ref = api.Dot{N: 1} },
	} {
		e := set(1, 1, "v")
		spoil(&e)
		all = append(all, e)
	}
	return all
}

// bodyOf is an event's body by the document's words.
func bodyOf(t *testing.T, e api.Event) string {
	t.Helper()
	b, fault := event.Encode(e)
	answers(t, "Encode", fault, api.OK)
	return "\x00" + string(b)
}

// bodiesOf is the bodies of a log by the document's words.
func bodiesOf(t *testing.T, snapshot string, has bool, events []api.Event) []string {
	t.Helper()
	var all []string
	if has {
		all = append(all, "\x01"+snapshot)
	}
	for _, e := range events {
		all = append(all, bodyOf(t, e))
	}
	return all
}

// framed is bodies' frames, one behind the other.
func framed(bodies ...string) string {
	var s strings.Builder
	for _, b := range bodies {
		s.Write(crc.Seal([]byte{byte(len(b) / 256), byte(len(b) % 256)}))
		s.Write(crc.Seal([]byte(b)))
	}
	return s.String()
}

// fileOf is the bytes of a disk that has a log.
func fileOf(t *testing.T, snapshot string, has bool, events []api.Event) string {
	t.Helper()
	return framed(bodiesOf(t, snapshot, has, events)...)
}

// holding is a disk of some room with bytes, of which the first ones are fast.
func holding(t *testing.T, file string, fast, room int) *disk.Disk {
	t.Helper()
	d := disk.New(room)
	answers(t, "the fast ones", d.Append([]byte(file[:fast])), api.OK)
	d.Sync()
	answers(t, "those behind", d.Append([]byte(file[fast:])), api.OK)
	return d
}

// opened is the log of a disk that can be opened.
func opened(t *testing.T, d *disk.Disk) *Log {
	t.Helper()
	l, fault := Open(d)
	if fault != api.OK || l == nil {
		t.Fatalf("Open: %v, %d", l, fault)
	}
	return l
}

// is holds all that a log tells against what it shall be.
func is(t *testing.T, what string, l *Log, snapshot string, has bool, events []api.Event, fast int) {
	t.Helper()
	if s, ok := l.Snapshot(); s != snapshot || ok != has {
		t.Errorf("%s: the snapshot is %.20q of %d bytes, %t, not %.20q of %d, %t", what, s, len(s), ok, snapshot, len(snapshot), has)
	}
	if got := l.Events(); !slices.Equal(got, events) {
		t.Errorf("%s: %d events, not %d: %.300s, not %.300s", what, len(got), len(events), fmt.Sprintf("%#v", got), fmt.Sprintf("%#v", events))
	}
	if l.Fast() != fast {
		t.Errorf("%s: fast %d of %d, not %d", what, l.Fast(), len(events), fast)
	}
}

// lies holds what a disk has against what it shall have.
func lies(t *testing.T, what string, d *disk.Disk, file string, fast int) {
	t.Helper()
	if got := d.Bytes(); string(got) != file || d.Fast() != fast {
		t.Errorf("%s: the disk has %d bytes, fast %d, %.40x, not %d, fast %d, %.40x", what, len(got), d.Fast(), got, len(file), fast, file)
	}
}

// finds opens a disk with just these bytes, and holds the log and the disk against what shall be found.
func finds(t *testing.T, what, file, snapshot string, has bool, events []api.Event) {
	t.Helper()
	left := fileOf(t, snapshot, has, events)
	for _, fast := range []int{0, len(file) / 2, len(file)} {
		d := holding(t, file, fast, len(file)+9)
		is(t, what, opened(t, d), snapshot, has, events, len(events))
		lies(t, what, d, left, len(left))
		is(t, what+", once more", opened(t, d), snapshot, has, events, len(events))
		lies(t, what+", once more", d, left, len(left))
	}
}

// logs calls a function with logs of all sorts: with a snapshot and without, with no events, one, and several.
func logs(do func(snapshot string, has bool, events []api.Event)) {
	all := some()
	for _, n := range []int{0, 1, 2, 5, len(all)} {
		do("", false, all[:n])
		do("", true, all[:n])
		do("s", true, all[:n])
		do("\x00\x01\xffstate", true, all[:n])
	}
}

// P8.1, P8.3: the document's example: two events, Sync, a third one, a crash that keeps any of it torn: Open finds two.
func TestExample(t *testing.T) {
	a, b, c := set(1, 1, "v"), set(1, 2, "w"), set(0, 1, "x")
	two, three := fileOf(t, "", false, []api.Event{a, b}), fileOf(t, "", false, []api.Event{a, b, c})
	for keep := range len(three) - len(two) {
		d := disk.New(top)
		l := opened(t, d)
		answers(t, "the first", l.Add(a), api.OK)
		answers(t, "the second", l.Add(b), api.OK)
		l.Sync()
		answers(t, "the third", l.Add(c), api.OK)
		is(t, "ahead of the crash", l, "", false, []api.Event{a, b, c}, 2)
		lies(t, "ahead of the crash", d, three, len(two))
		d.Crash(keep, keep, keep%2*65535)
		is(t, "behind the crash", opened(t, d), "", false, []api.Event{a, b}, 2)
		lies(t, "behind the crash", d, two, len(two))
	}
}

// P8.1: the bytes of a log by hand, with layer 5's example of an event.
func TestBytes(t *testing.T) {
	event := "\x00" + "\x01\x01\x09" + strings.Repeat("\x00", 16) + "\x01" + "\x01k" + "\x01v"
	d := disk.New(top)
	l := opened(t, d)
	answers(t, "Add", l.Add(set(1, 1, "v")), api.OK)
	lies(t, "Add", d, framed(event), 0)
	answers(t, "Rewrite", l.Rewrite("ab", []api.Event{set(1, 1, "v")}), api.OK)
	lies(t, "Rewrite", d, framed("\x01ab", event), len(framed("\x01ab", event)))
	answers(t, "Rewrite by none", l.Rewrite("", nil), api.OK)
	lies(t, "Rewrite by none", d, framed("\x01"), 7)
}

// P8.1: there is no log on no disk (R2).
func TestOpenNil(t *testing.T) {
	l, fault := Open(nil)
	if l != nil || fault != api.ErrArg {
		t.Errorf("Open(nil): %v, %d", l, fault)
	}
}

// P8.1: an empty disk has an empty log, whatever its room.
func TestOpenEmpty(t *testing.T) {
	for _, d := range []*disk.Disk{disk.New(0), disk.New(1), disk.New(top), {}} {
		l := opened(t, d)
		is(t, "empty", l, "", false, nil, 0)
		lies(t, "empty", d, "", 0)
		l.Sync()
		is(t, "empty, synced", l, "", false, nil, 0)
	}
	l := opened(t, &disk.Disk{})
	answers(t, "Add without room", l.Add(set(0, 1, "v")), api.ErrFull)
	answers(t, "Rewrite without room", l.Rewrite("", nil), api.ErrFull)
	is(t, "without room", l, "", false, nil, 0)
}

// P8.1, P8.2: a disk whose bodies are all right is found as it is, and its events count as fast.
func TestOpenWhole(t *testing.T) {
	logs(func(snapshot string, has bool, events []api.Event) {
		finds(t, "whole", fileOf(t, snapshot, has, events), snapshot, has, events)
	})
	finds(t, "the longest snapshot", framed("\x01"+noise(most, 1)), noise(most, 1), true, nil)
}

// P8.1: of a disk whose last body is cut off at each byte the others are found, and the disk is cut behind these.
func TestOpenTorn(t *testing.T) {
	logs(func(snapshot string, has bool, events []api.Event) {
		whole := fileOf(t, snapshot, has, events)
		if len(events) > 0 {
			ahead := events[:len(events)-1]
			for n := len(fileOf(t, snapshot, has, ahead)); n < len(whole); n++ {
				finds(t, fmt.Sprintf("torn at %d of %d", n, len(whole)), whole[:n], snapshot, has, ahead)
			}
		} else if has {
			for n := range len(whole) {
				finds(t, "a torn snapshot", whole[:n], "", false, nil)
			}
		}
		finds(t, "a byte behind", whole+"\x00", snapshot, has, events)
		finds(t, "a head behind", whole+framed("")[:4], snapshot, has, events)
	})
}

// turned is bytes of which sixteen bits, from a place on, are turned by a number.
func turned(file string, at, turn int) string {
	b := []byte(file)
	for i := range 16 {
		if bit := at + i; turn>>(15-i)&1 == 1 {
			b[bit/8] ^= 1 << (7 - bit%8)
		}
	}
	return string(b)
}

// P8.1: a body of which bits are turned isn't the log's, nor is what stands behind it; the disk is cut ahead of it.
func TestOpenTurned(t *testing.T) {
	events := []api.Event{set(1, 1, "v"), some()[9], set(1, 2, "")}
	bodies := bodiesOf(t, "st", true, events)
	file := framed(bodies...)
	for at := 0; at+16 <= 8*len(file); at++ {
		whole := 0
		for len(framed(bodies[:whole+1]...))*8 <= at {
			whole++
		}
		for _, turn := range []int{32768, 65535, 0x8001, 0xa5c3} {
			has, snapshot := whole > 0, ""
			if has {
				snapshot = "st"
			}
			finds(t, fmt.Sprintf("turned at %d", at), turned(file, at, turn), snapshot, has, events[:max(whole-1, 0)])
		}
	}
}

// badBodies is bodies that are no event's and no snapshot's.
func badBodies(t *testing.T) []string {
	good := bodyOf(t, set(2, 1, "v"))
	bad := []string{
		"", "\x00", "\x00\x00", "\x02", "\xff", "\x02ab", "\x80",
		// Another kind, none, or two.
		"\x02" + good[1:], "\xff" + good[1:], good[1:], "\x00" + good,
		// Bytes behind the event.
		good + "\x00", good + "v", good + good, good + good[1:], good + noise(60000, 2),
		// Numbers that are written in another way.
		"\x00\x80" + good[1:], "\x00\x02\x80" + good[2:],
		// Events that can't be: the replica, its number, what it had seen, the kind, the key.
		"\x00\x10" + good[2:], "\x00\x02\x02" + good[3:], "\x00\x02\x00" + good[3:], good[:6] + "\x01" + good[7:],
		good[:20] + "\x00" + good[21:], good[:20] + "\x0c" + good[21:], good[:20] + "\x0b" + good[21:], good[:21] + "\x00" + good[23:],
		string(make([]byte, 60000)), "\x02" + noise(60000, 1),
	}
	for n := 1; n < len(good); n++ {
		bad = append(bad, good[:n])
	}
	return bad
}

// P8.1: a log goes to the first body that is none, whatever stands behind it: the disk is cut there.
func TestOpenWrong(t *testing.T) {
	events := []api.Event{set(1, 1, "v"), some()[4], set(0, 1, "w")}
	for _, bad := range badBodies(t) {
		for _, has := range []bool{false, true} {
			snapshot := ""
			if has {
				snapshot = "state"
			}
			for n := range len(events) + 1 {
				file := framed(append(bodiesOf(t, snapshot, has, events[:n]), bad)...)
				what := fmt.Sprintf("%.40x behind %d events", bad, n)
				finds(t, what, file, snapshot, has, events[:n])
				file += fileOf(t, "another", true, events)
				finds(t, what+", and others", file, snapshot, has, events[:n])
			}
		}
	}
}

// P8.1: a snapshot is one as the first body alone.
func TestOpenLateSnapshot(t *testing.T) {
	for _, late := range []string{"\x01", "\x01late", "\x01" + bodyOf(t, set(1, 1, "v"))} {
		logs(func(snapshot string, has bool, events []api.Event) {
			if has || len(events) > 0 {
				file := fileOf(t, snapshot, has, events) + framed(late)
				finds(t, "a late snapshot", file, snapshot, has, events)
				finds(t, "a late snapshot, and an event", file+fileOf(t, "", false, some()[:1]), snapshot, has, events)
			}
		})
		finds(t, "the first body", framed(late), late[1:], true, nil)
	}
}

// P8.1, P8.2: an event's frame is appended, it stands behind the events, and isn't fast.
func TestAdd(t *testing.T) {
	for _, has := range []bool{false, true} {
		for synced := range 4 {
			d := holding(t, fileOf(t, "", has, nil), 0, top)
			l := opened(t, d)
			var events []api.Event
			fast := 0
			for _, e := range some() {
				answers(t, "Add", l.Add(e), api.OK)
				events = append(events, e)
				is(t, "Add", l, "", has, events, fast)
				lies(t, "Add", d, fileOf(t, "", has, events), len(fileOf(t, "", has, events[:fast])))
				if synced > 0 && len(events)%synced == 0 {
					l.Sync()
					fast = len(events)
					is(t, "Sync", l, "", has, events, fast)
					lies(t, "Sync", d, fileOf(t, "", has, events), len(d.Bytes()))
				}
			}
		}
	}
}

// P8.1: a log takes an event more than once, and in whatever order: it asks only whether it can be.
func TestAddAnyOrder(t *testing.T) {
	d := disk.New(top)
	l := opened(t, d)
	events := []api.Event{set(1, 2, "b"), set(1, 1, "a"), set(1, 2, "b"), set(1, 2, "c"), set(0, 9, "d")}
	for _, e := range events {
		answers(t, "Add", l.Add(e), api.OK)
	}
	is(t, "any order", l, "", false, events, 0)
	is(t, "any order, opened", opened(t, d), "", false, events, 5)
}

// P8.1: with just the room for a frame it is added; with a byte less it isn't, and nothing is changed (R2).
func TestAddRoom(t *testing.T) {
	for _, e := range some() {
		ahead := fileOf(t, "s", true, some()[:2])
		whole := ahead + framed(bodyOf(t, e))
		for less := range 8 {
			d := holding(t, ahead, len(ahead), len(whole)-less)
			l := opened(t, d)
			if less == 0 {
				answers(t, "just the room", l.Add(e), api.OK)
				is(t, "just the room", l, "s", true, append(some()[:2], e), 2)
				lies(t, "just the room", d, whole, len(ahead))
				answers(t, "no room at all", l.Add(set(0, 1, "")), api.ErrFull)
				is(t, "no room at all", l, "s", true, append(some()[:2], e), 2)
				lies(t, "no room at all", d, whole, len(ahead))
			} else {
				answers(t, "too little room", l.Add(e), api.ErrFull)
				is(t, "too little room", l, "s", true, some()[:2], 2)
				lies(t, "too little room", d, ahead, len(ahead))
			}
		}
	}
}

// P8.1: behind an event that has no room a smaller one may have it.
func TestAddSmaller(t *testing.T) {
	big, small := set(0, 1, strings.Repeat("v", 64)), set(0, 1, "")
	d := disk.New(len(fileOf(t, "", false, []api.Event{small, small})))
	l := opened(t, d)
	answers(t, "the small one", l.Add(small), api.OK)
	answers(t, "the big one", l.Add(big), api.ErrFull)
	answers(t, "the small one", l.Add(small), api.OK)
	is(t, "both", l, "", false, []api.Event{small, small}, 0)
}

// P8.1: what can't be isn't added, and that is told ahead of there being no room; nothing is changed (R2).
func TestAddWrong(t *testing.T) {
	for _, e := range wrong() {
		for _, room := range []int{0, 1, len(fileOf(t, "", false, some()[:1])), top} {
			d := disk.New(room)
			l := opened(t, d)
			events, file := []api.Event(nil), ""
			if l.Add(some()[0]) == api.OK {
				events, file = some()[:1], fileOf(t, "", false, some()[:1])
			}
			answers(t, fmt.Sprintf("Add of %v", e), l.Add(e), api.ErrArg)
			is(t, "what can't be", l, "", false, events, 0)
			lies(t, "what can't be", d, file, 0)
		}
	}
}

// P8.1: the log and the disk are just these behind Rewrite, whatever they were, and all is fast.
func TestRewrite(t *testing.T) {
	logs(func(was string, had bool, old []api.Event) {
		for _, snapshot := range []string{"", "1", "\x00", "state", noise(300, 1)} {
			for _, events := range [][]api.Event{nil, {}, some()[:1], some()[3:9], some()} {
				d := disk.New(top)
				answers(t, "what was", d.Append([]byte(fileOf(t, was, had, nil))), api.OK)
				l := opened(t, d)
				for _, e := range old {
					answers(t, "Add", l.Add(e), api.OK)
				}
				answers(t, "Rewrite", l.Rewrite(snapshot, events), api.OK)
				file := fileOf(t, snapshot, true, events)
				is(t, "Rewrite", l, snapshot, true, events, len(events))
				lies(t, "Rewrite", d, file, len(file))
				more := slices.Concat(events, some()[:1])
				answers(t, "Add", l.Add(some()[0]), api.OK)
				is(t, "an event more", l, snapshot, true, more, len(events))
				lies(t, "an event more", d, fileOf(t, snapshot, true, more), len(file))
				is(t, "opened", opened(t, d), snapshot, true, more, len(more))
			}
		}
	})
}

// P8.1: a snapshot has at most 65528 bytes: a longer one changes nothing (R2).
func TestRewriteLong(t *testing.T) {
	for _, n := range []int{0, 1, 2, 65527, 65528, 65529, 65530, 65535, 65536, 65537, 131072, 1 << 20} {
		d := disk.New(top)
		l := opened(t, d)
		answers(t, "Add", l.Add(some()[0]), api.OK)
		snapshot := noise(n, uint32(n))
		if n <= most {
			answers(t, "Rewrite", l.Rewrite(snapshot, nil), api.OK)
			is(t, "Rewrite", l, snapshot, true, nil, 0)
			lies(t, "Rewrite", d, framed("\x01"+snapshot), n+7)
			is(t, "opened", opened(t, d), snapshot, true, nil, 0)
		} else {
			answers(t, "too long", l.Rewrite(snapshot, nil), api.ErrLong)
			is(t, "too long", l, "", false, some()[:1], 0)
			lies(t, "too long", d, fileOf(t, "", false, some()[:1]), 0)
		}
	}
}

// P8.1: a log is rewritten to just as many bytes as there is room for, whatever it has; for one more it isn't (R2).
func TestRewriteRoom(t *testing.T) {
	for _, snapshot := range []string{"", "s", noise(200, 1), noise(60000, 2)} {
		for _, events := range [][]api.Event{nil, some()[:1], some()} {
			file := fileOf(t, snapshot, true, events)
			for _, less := range []int{0, 1, 2, 7, len(file)} {
				room := len(file) - less
				d := disk.New(room)
				l := opened(t, d)
				had := []api.Event{}
				for len(had) < 50 && l.Add(set(0, len(had)+1, "w")) == api.OK {
					had = append(had, set(0, len(had)+1, "w"))
				}
				if less == 0 {
					answers(t, "just the room", l.Rewrite(snapshot, events), api.OK)
					is(t, "just the room", l, snapshot, true, events, len(events))
					lies(t, "just the room", d, file, len(file))
					answers(t, "full", l.Add(set(0, 1, "")), api.ErrFull)
				} else {
					answers(t, "too little room", l.Rewrite(snapshot, events), api.ErrFull)
					is(t, "too little room", l, "", false, had, 0)
					lies(t, "too little room", d, fileOf(t, "", false, had), 0)
				}
			}
		}
	}
}

// P8.1: the whole disk may be filled: the longest snapshot leaves a byte, and no event has room then.
func TestRewriteTheGreatest(t *testing.T) {
	e := set(0, 1, "")
	d := disk.New(top)
	l := opened(t, d)
	answers(t, "an event and the longest one", l.Rewrite(noise(most, 1), []api.Event{e}), api.ErrFull)
	is(t, "refused", l, "", false, nil, 0)
	fits := noise(top-7-len(fileOf(t, "", false, []api.Event{e})), 3)
	answers(t, "just full", l.Rewrite(fits, []api.Event{e}), api.OK)
	lies(t, "just full", d, fileOf(t, fits, true, []api.Event{e}), top)
	is(t, "just full", opened(t, d), fits, true, []api.Event{e}, 1)
	answers(t, "the longest one", l.Rewrite(noise(most, 1), nil), api.OK)
	lies(t, "the longest one", d, fileOf(t, noise(most, 1), true, nil), top-1)
	answers(t, "Add", l.Add(e), api.ErrFull)
	is(t, "the longest one", l, noise(most, 1), true, nil, 0)
}

// P8.1: an event that can't be, wherever it stands, lets Rewrite change nothing (R2).
func TestRewriteWrong(t *testing.T) {
	for _, e := range wrong() {
		for at := range 4 {
			d := disk.New(top)
			l := opened(t, d)
			answers(t, "Rewrite", l.Rewrite("was", some()[:1]), api.OK)
			answers(t, "Add", l.Add(some()[1]), api.OK)
			answers(t, "an event that can't be", l.Rewrite("s", slices.Insert(some()[:3], at, e)), api.ErrArg)
			is(t, "an event that can't be", l, "was", true, some()[:2], 1)
			lies(t, "an event that can't be", d, fileOf(t, "was", true, some()[:2]), len(fileOf(t, "was", true, some()[:1])))
		}
	}
}

// R1, P8.1: of several errors the one that is named first is told; none changes anything (R2).
func TestErrorOrder(t *testing.T) {
	bad := []api.Event{some()[0], {}}
	for _, c := range []struct {
		what     string
		room     int
		snapshot string
		events   []api.Event
		want     api.Errno
	}{
		{"long, wrong, no room", 60, noise(most+1, 1), bad, api.ErrLong},
		{"long, wrong", top, noise(most+1, 1), bad, api.ErrLong},
		{"long, no room", 60, noise(most+1, 1), some(), api.ErrLong},
		{"long", 60, noise(most+1, 1), nil, api.ErrLong},
		{"wrong, no room", 60, "s", bad, api.ErrArg},
		{"wrong, no room for the snapshot", 60, noise(most, 1), bad, api.ErrArg},
		{"wrong at the end, no room", 60, "s", append(some(), api.Event{}), api.ErrArg},
		{"no room", 60, "s", some(), api.ErrFull},
		{"no room for the snapshot", 60, noise(most, 1), nil, api.ErrFull},
	} {
		d := disk.New(c.room)
		l := opened(t, d)
		answers(t, c.what, l.Rewrite("w", some()[:1]), api.OK)
		answers(t, c.what, l.Rewrite(c.snapshot, c.events), c.want)
		is(t, c.what, l, "w", true, some()[:1], 1)
		lies(t, c.what, d, fileOf(t, "w", true, some()[:1]), len(d.Bytes()))
		if c.room < top {
			answers(t, "Add of what can't be, without room", l.Add(api.Event{}), api.ErrArg)
			answers(t, "Add without room", l.Add(some()[4]), api.ErrFull)
		}
		is(t, c.what, l, "w", true, some()[:1], 1)
	}
}

// P8.2: what is fast, step by step.
func TestFast(t *testing.T) {
	d := disk.New(top)
	l := opened(t, d)
	fast := func(what string, want int) {
		t.Helper()
		if l.Fast() != want {
			t.Errorf("%s: fast %d, not %d", what, l.Fast(), want)
		}
	}
	fast("Open", 0)
	l.Sync()
	fast("Sync of none", 0)
	for n := range 3 {
		answers(t, "Add", l.Add(set(0, n+1, "v")), api.OK)
		fast("Add", 0)
	}
	l.Sync()
	fast("Sync", 3)
	answers(t, "Add", l.Add(set(0, 4, "v")), api.OK)
	fast("Add", 3)
	answers(t, "Add", l.Add(api.Event{}), api.ErrArg)
	fast("Add of what can't be", 3)
	l = opened(t, d)
	fast("Open", 4)
	answers(t, "Add", l.Add(set(0, 5, "v")), api.OK)
	fast("Add", 4)
	answers(t, "Rewrite", l.Rewrite("s", some()[:2]), api.OK)
	fast("Rewrite", 2)
	answers(t, "Rewrite", l.Rewrite("s", some()[:7]), api.OK)
	fast("Rewrite", 7)
	answers(t, "Add", l.Add(set(0, 6, "v")), api.OK)
	answers(t, "Rewrite", l.Rewrite("s", []api.Event{{}}), api.ErrArg)
	fast("Rewrite that is refused", 7)
	answers(t, "Rewrite", l.Rewrite("", nil), api.OK)
	fast("Rewrite by none", 0)
	answers(t, "Add", l.Add(set(0, 7, "v")), api.OK)
	l.Sync()
	l.Sync()
	fast("Sync twice", 1)
}

// survives crashes a disk as a log left it, and holds what Open finds against P8.3. How many whole events it shall find is told.
func survives(t *testing.T, what string, d *disk.Disk, keep, at, turn int, snapshot string, has bool, events []api.Event, fast, want int) {
	t.Helper()
	d.Crash(keep, at, turn)
	l := opened(t, d)
	if n := len(l.Events()); n != want || n < fast {
		t.Errorf("%s: behind Crash(%d, %d, %d) %d events, not %d", what, keep, at, turn, n, want)
		return
	}
	is(t, what, l, snapshot, has, events[:want], want)
	left := fileOf(t, snapshot, has, events[:want])
	lies(t, what, d, left, len(left))
}

// written is a disk and its log, with a snapshot or none, with fast events and with others behind them.
func written(t *testing.T, snapshot string, has bool, events []api.Event, fast int) (*disk.Disk, *Log) {
	t.Helper()
	d := disk.New(top)
	l := opened(t, d)
	if has {
		answers(t, "Rewrite", l.Rewrite(snapshot, nil), api.OK)
	}
	for i, e := range events {
		if i == fast {
			l.Sync()
		}
		answers(t, "Add", l.Add(e), api.OK)
	}
	if fast == len(events) {
		l.Sync()
	}
	return d, l
}

// P8.3: a crash that keeps any number of bytes, and turns any bits of them at any place, leaves a beginning with all that was fast.
func TestCrash(t *testing.T) {
	events := []api.Event{set(1, 1, "v"), some()[8], set(1, 2, "")}
	for _, has := range []bool{false, true} {
		snapshot := map[bool]string{true: "state"}[has]
		var ends []int
		for n := range len(events) + 1 {
			ends = append(ends, len(fileOf(t, snapshot, has, events[:n])))
		}
		for fast := range ends {
			behind := ends[len(events)] - ends[fast]
			for keep := -1; keep <= behind+1; keep++ {
				kept := min(max(keep, 0), behind)
				for at := 0; at < max(8*kept-15, 1); at += 1 + kept%3*5 {
					for _, turn := range []int{0, 32768, 1, 65535} {
						good := kept
						if kept > 1 && turn != 0 {
							// The first bit that is turned: the highest one in the number, or the lowest.
							good = (at + map[int]int{1: 15}[turn]) / 8
						}
						want := fast
						for want < len(events) && ends[want+1]-ends[fast] <= good {
							want++
						}
						d, l := written(t, snapshot, has, events, fast)
						if l.Fast() != fast {
							t.Fatalf("ahead of a crash: fast %d, not %d", l.Fast(), fast)
						}
						survives(t, "a crash", d, keep, at, turn, snapshot, has, events, fast, want)
					}
				}
			}
		}
	}
}

// P8.3: what was there at Open is fast, even if nobody had synced the disk: no crash loses it any more.
func TestCrashBehindOpen(t *testing.T) {
	logs(func(snapshot string, has bool, events []api.Event) {
		for _, rest := range []string{"", "\x00\x07torn"} {
			file := fileOf(t, snapshot, has, events)
			d := holding(t, file+rest, 0, top)
			l := opened(t, d)
			is(t, "opened", l, snapshot, has, events, len(events))
			d.Crash(0, 0, 0)
			lies(t, "behind a crash", d, file, len(file))
			is(t, "opened behind a crash", opened(t, d), snapshot, has, events, len(events))
		}
	})
}

// P8.3: what was rewritten is fast at once: a crash leaves it as it is.
func TestCrashBehindRewrite(t *testing.T) {
	for _, events := range [][]api.Event{nil, some()[:1], some()} {
		for _, keep := range []int{math.MinInt, -1, 0, 1, 2, 20, math.MaxInt} {
			d, l := written(t, "", false, some()[:4], 2)
			answers(t, "Rewrite", l.Rewrite("new", events), api.OK)
			survives(t, "rewritten", d, keep, 5, 65535, "new", true, events, len(events), len(events))
		}
	}
}

// P8.3: behind a crash a log goes on: what is added then stands right behind what was found.
func TestCrashAndGoOn(t *testing.T) {
	d, _ := written(t, "state", true, some()[:3], 2)
	d.Crash(9, 0, 65535)
	l := opened(t, d)
	events := slices.Concat(some()[:2], some()[5:7])
	answers(t, "Add", l.Add(some()[5]), api.OK)
	answers(t, "Add", l.Add(some()[6]), api.OK)
	is(t, "gone on", l, "state", true, events, 2)
	lies(t, "gone on", d, fileOf(t, "state", true, events), len(fileOf(t, "state", true, events[:2])))
	l.Sync()
	d.Crash(0, 0, 0)
	is(t, "gone on, and a crash", opened(t, d), "state", true, events, 4)
}

// none holds a log that is none against what all its calls shall answer.
func none(t *testing.T, what string, l *Log) {
	t.Helper()
	is(t, what, l, "", false, nil, 0)
	for _, e := range append(some(), wrong()...) {
		answers(t, what+": Add", l.Add(e), api.ErrArg)
		answers(t, what+": Rewrite", l.Rewrite("s", []api.Event{e}), api.ErrArg)
	}
	for _, n := range []int{0, 1, most, most + 1, 2 * top} {
		answers(t, what+": Rewrite", l.Rewrite(noise(n, 1), nil), api.ErrArg)
		answers(t, what+": Rewrite", l.Rewrite(noise(n, 1), wrong()), api.ErrArg)
	}
	l.Sync()
	is(t, what+", behind all calls", l, "", false, nil, 0)
}

// P8.4, R1: a nil log and the zero one answer alike, whatever they are asked.
func TestNoLog(t *testing.T) {
	var l *Log
	var zero Log
	for range 2 {
		none(t, "nil", l)
		none(t, "zero", &zero)
		none(t, "new", new(Log))
	}
}

// spoil writes over a list of events, and over what lies behind it in its memory.
func spoil(events []api.Event) {
	events = events[:cap(events)]
	for i := range events {
		events[i] = api.Event{Time: -7}
	}
}

// R3: what is handed in isn't changed, nor what lies behind it in its memory, and isn't kept.
func TestHandedIn(t *testing.T) {
	memory := some()
	list := memory[2:4]
	d := disk.New(top)
	l := opened(t, d)
	answers(t, "Rewrite", l.Rewrite("s", list), api.OK)
	answers(t, "Add", l.Add(some()[0]), api.OK)
	answers(t, "Add", l.Add(some()[1]), api.OK)
	if !slices.Equal(memory, some()) {
		t.Errorf("what was handed in became %v", memory)
	}
	spoil(memory)
	is(t, "Rewrite", l, "s", true, slices.Concat(some()[2:4], some()[:2]), 2)
	answers(t, "refused", l.Rewrite("s", memory), api.ErrArg)
	for _, e := range memory {
		if e != (api.Event{Time: -7}) {
			t.Errorf("a refused list became %v", memory)
		}
	}
	is(t, "refused", l, "s", true, slices.Concat(some()[2:4], some()[:2]), 2)
}

// R3: what is told is new memory: the log doesn't see what is written there, nor does another answer, nor an answer what is done then.
func TestHandedOut(t *testing.T) {
	for _, how := range []string{"Add", "Rewrite", "Open"} {
		d := disk.New(top)
		l := opened(t, d)
		for _, e := range some()[:5] {
			answers(t, "Add", l.Add(e), api.OK)
		}
		l.Sync()
		switch how {
		case "Rewrite":
			answers(t, how, l.Rewrite("", l.Events()), api.OK)
		case "Open":
			l = opened(t, d)
		}
		first, second := l.Events(), l.Events()
		spoil(first)
		if !slices.Equal(second, some()[:5]) || !slices.Equal(l.Events(), some()[:5]) {
			t.Errorf("behind %s: another answer is %v, the log has %v", how, second, l.Events())
		}
		answers(t, "Add", l.Add(some()[5]), api.OK)
		spoil(second)
		is(t, "behind "+how, l, "", how == "Rewrite", some()[:6], 5)
		third := l.Events()
		answers(t, "Add", l.Add(some()[6]), api.OK)
		answers(t, "Rewrite", l.Rewrite("new", some()[9:11]), api.OK)
		if !slices.Equal(third, some()[:6]) {
			t.Errorf("behind %s: an answer became %v", how, third)
		}
	}
}

// R3: the disk is used, not copied: what the log is told stands there, and the room is what it has left.
func TestDiskIsUsed(t *testing.T) {
	a := set(0, 1, "v")
	d := disk.New(len(fileOf(t, "", false, []api.Event{a})))
	l := opened(t, d)
	answers(t, "Append", d.Append([]byte("x")), api.OK)
	answers(t, "a byte too little", l.Add(a), api.ErrFull)
	answers(t, "Cut", d.Cut(0), api.OK)
	answers(t, "room again", l.Add(a), api.OK)
	lies(t, "used", d, fileOf(t, "", false, []api.Event{a}), 0)
	l.Sync()
	lies(t, "synced", d, fileOf(t, "", false, []api.Event{a}), d.Room())
}

// R6: what one log is told is nothing to another one.
func TestLogsApart(t *testing.T) {
	d, other := disk.New(top), disk.New(top)
	a, b := opened(t, d), opened(t, other)
	answers(t, "Add", a.Add(some()[0]), api.OK)
	answers(t, "Rewrite", b.Rewrite("b", a.Events()), api.OK)
	answers(t, "Add", b.Add(some()[1]), api.OK)
	is(t, "the first one", a, "", false, some()[:1], 0)
	is(t, "the other one", b, "b", true, some()[:2], 1)
	answers(t, "Rewrite", a.Rewrite("a", nil), api.OK)
	is(t, "the first one", a, "a", true, nil, 0)
	is(t, "the other one", b, "b", true, some()[:2], 1)
	lies(t, "the other disk", other, fileOf(t, "b", true, some()[:2]), len(fileOf(t, "b", true, some()[:1])))
}

// model is a log by the promises' words, with what its disk has.
type model struct {
	snapshot string
	has      bool
	events   []api.Event
	fast     int
	room     int
}

// file is the bytes that the model's log has on its disk.
func (m *model) file(t *testing.T) string { return fileOf(t, m.snapshot, m.has, m.events) }

// step does one call to a log and to its model, and holds both against one another; it answers the log, which a crash opens anew.
func (m *model) step(t *testing.T, d *disk.Disk, l *Log, kind, n, at, turn int) *Log {
	t.Helper()
	all := append(some(), wrong()...)
	e := all[n%len(all)]
	switch kind {
	case 0:
		want := api.OK
		if !event.Right(e) {
			want = api.ErrArg
		} else if len(m.file(t))+len(framed(bodyOf(t, e))) > m.room {
			want = api.ErrFull
		} else {
			m.events = append(m.events, e)
		}
		got := l.Add(e)
		answers(t, "Add", got, want)
	case 1:
		l.Sync()
		m.fast = len(m.events)
	case 2:
		snapshot, events := noise(at%60, uint32(at)), m.events[min(turn%7, len(m.events)):]
		want := api.OK
		if n%4 == 0 {
			events, want = append(slices.Clone(events), wrong()[n%len(wrong())]), api.ErrArg
		} else if len(fileOf(t, snapshot, true, events)) > m.room {
			want = api.ErrFull
		}
		answers(t, "Rewrite", l.Rewrite(snapshot, events), want)
		if want == api.OK {
			m.snapshot, m.has, m.events, m.fast = snapshot, true, slices.Clone(events), len(events)
		}
	case 3:
		d.Crash(n, at, turn)
		l = opened(t, d)
		found := len(l.Events())
		if found < m.fast || found > len(m.events) {
			t.Fatalf("behind Crash(%d, %d, %d): %d events of %d, of which %d were fast", n, at, turn, found, len(m.events), m.fast)
		}
		m.events, m.fast = m.events[:found], found
	case 4:
		l = opened(t, d)
		m.fast = len(m.events)
	}
	is(t, "a step", l, m.snapshot, m.has, m.events, m.fast)
	lies(t, "a step", d, m.file(t), len(fileOf(t, m.snapshot, m.has, m.events[:m.fast])))
	return l
}

// P8.1, P8.2, P8.3: long runs of all calls, one behind the other.
func TestRuns(t *testing.T) {
	for seed := range uint64(60) {
		next := func(n int) int {
			seed = seed*6364136223846793005 + 1442695040888963407
			return int(seed>>33) % n
		}
		m := &model{room: next(900)}
		d := disk.New(m.room)
		l := opened(t, d)
		for range 250 {
			kind := []int{0, 0, 0, 0, 0, 0, 1, 2, 3, 4}[next(10)]
			l = m.step(t, d, l, kind, next(100), next(10000), next(65536))
			if t.Failed() {
				return
			}
		}
	}
}

// told is what a disk's bytes tell by the document's words: frames are taken one by one.
func told(file []byte) (string, bool, []api.Event, int) {
	snapshot, has, end := "", false, 0
	var events []api.Event
	for {
		body, next, fault := frame.Take(file, end)
		if fault != api.OK || len(body) == 0 {
			return snapshot, has, events, end
		}
		e, wrong := event.Decode(body[1:])
		switch {
		case body[0] == 0 && wrong == api.OK:
			events = append(events, e)
		case body[0] == 1 && end == 0:
			snapshot, has = string(body[1:]), true
		default:
			return snapshot, has, events, end
		}
		end = next
	}
}

// P8.1, P8.2: whatever bytes a disk has, as they are, and as a frame's body.
func FuzzOpen(f *testing.F) {
	good, _ := event.Encode(set(1, 1, "v"))
	for _, s := range []string{"", "\x00", "\x01", "\x00" + string(good), "\x01state", "\x02", framed("\x01s", "\x00"+string(good))} {
		f.Add(s, "\x01s", 0)
		f.Add("\x00"+string(good), s, 1)
		f.Add(s, s, 2)
	}
	f.Fuzz(func(t *testing.T, a, b string, how int) {
		if len(a)+len(b) > 60000 {
			return
		}
		file := [...]string{a + b, framed(a, b), framed(a) + b}[uint(how)%3]
		d := holding(t, file, 0, top)
		l := opened(t, d)
		snapshot, has, events, end := told([]byte(file))
		is(t, "any bytes", l, snapshot, has, events, len(events))
		lies(t, "any bytes", d, file[:end], end)
		answers(t, "Add", l.Add(set(0, 1, "x")), api.OK)
		d.Crash(how, len(a), len(b)+1)
		more := append(events, set(0, 1, "x"))
		found := opened(t, d).Events()
		if len(found) < len(events) || !slices.Equal(found, more[:min(len(found), len(more))]) {
			t.Errorf("behind a crash: %v, not a beginning of %v", found, more)
		}
	})
}
