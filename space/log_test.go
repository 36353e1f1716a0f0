package space

import (
	"testing"

	"polyphony/aof"
	"polyphony/api"
	"polyphony/disk"
	"polyphony/event"
	"polyphony/frame"
)

// logged is a disk on which events lie, of which the first ones are synced, behind a snapshot, if there is one.
func logged(t *testing.T, snapshot string, has bool, l []api.Event, fast int) *disk.Disk {
	t.Helper()
	d := disk.New(api.MaxFile)
	log, fault := aof.Open(d)
	if fault == api.OK && has {
		fault = log.Rewrite(snapshot, nil)
	}
	for i, e := range l {
		if i == fast {
			log.Sync()
		}
		if fault == api.OK {
			fault = log.Add(e)
		}
	}
	if fast == len(l) {
		log.Sync()
	}
	if fault != api.OK {
		t.Fatalf("it isn't logged: %d", fault)
	}
	return d
}

// anew is the space that is made of a disk's log, and how many events it has seen behind the snapshot.
func anew(t *testing.T, d *disk.Disk) (*Space, int) {
	t.Helper()
	log, fault := aof.Open(d)
	if fault != api.OK {
		t.Fatalf("Open: %d", fault)
	}
	s := New()
	if text, has := log.Snapshot(); has {
		s = decodes(t, "the snapshot", text, api.OK)
	}
	for _, e := range log.Events() {
		if fault := s.Apply(e); fault != api.OK {
			t.Fatalf("Apply of what was logged: %d", fault)
		}
	}
	return s, len(log.Events())
}

// sizes is how many bytes the frame of each event has.
func sizes(l []api.Event) []int {
	var all []int
	for _, e := range l {
		b, _ := event.Encode(e)
		all = append(all, 1+len(b)+frame.Room)
	}
	return all
}

// left is how many events are found behind a crash: those that were fast, and as many behind them as lie whole in what
// is kept, ahead of the first bit that is turned.
func left(l []api.Event, fast, keep, at, turn int) int {
	total := 0
	for _, n := range sizes(l[fast:]) {
		total += n
	}
	keep = min(max(keep, 0), total)
	whole := keep
	if turn %= 65536; keep >= 2 && turn != 0 {
		bit := at % (8*keep - 15)
		for turn&0x8000 == 0 {
			bit, turn = bit+1, turn<<1
		}
		whole = bit / 8
	}
	n := fast
	for _, size := range sizes(l[fast:]) {
		if whole < size {
			break
		}
		whole -= size
		n++
	}
	return n
}

// P8.3, P7.2, P6.3: a space that is made anew of a log has seen a beginning of the events, up to where a crash cut them
// off or turned bits, and all that were synced among them; and tells what it told then.
func TestMadeAnew(t *testing.T) {
	cut, turned := 0, 0
	for seed := range 25 {
		s := dice(seed)
		l := s.history(16, 0, 1, last)
		texts := []string{New().Encode()}
		b := begun()
		for _, e := range l {
			b.see(t, e)
			texts = append(texts, b.s.Encode())
		}
		fast := s.roll(len(l) + 1)
		total := 0
		for _, n := range sizes(l[fast:]) {
			total += n
		}
		for keep := -1; keep <= total+1; keep++ {
			at, turn := s.roll(1<<16), s.roll(2)*s.roll(1<<16)
			d := logged(t, "", false, l, fast)
			d.Crash(keep, at, turn)
			u, n := anew(t, d)
			want := left(l, fast, keep, at, turn)
			if n != want || n < fast {
				t.Fatalf("at seed %d: %d events, of which %d are fast, kept %d bytes, turned %d at %d: %d are found, not %d", seed, len(l), fast, keep, turn, at, n, want)
			}
			if u.Encode() != texts[n] {
				t.Fatalf("at seed %d: the space has the text %q, not %q", seed, u.Encode(), texts[n])
			}
			if n < len(l) {
				cut++
			}
			if n < left(l, fast, keep, 0, 0) {
				turned++
			}
		}
		d := logged(t, "", false, l, fast)
		d.Crash(total, 0, 0)
		u, _ := anew(t, d)
		again := both{s: u, p: b.p}
		again.is(t, "all is kept")
	}
	if cut < 1000 || turned < 200 {
		t.Errorf("cut %d times, turned %d: this tests too little", cut, turned)
	}
}

// P8.3, P17.5: so has one that is made of a snapshot and the events behind it; the snapshot is always found.
func TestMadeAnewOfASnapshot(t *testing.T) {
	for seed := range 60 {
		s := dice(seed)
		l := s.history(30, 0, 1, 2)
		from := s.roll(len(l) + 1)
		texts := []string{}
		b := begun()
		b.see(t, l[:from]...)
		if seed%2 == 0 {
			b.collects(t, "ahead of the snapshot", b.p.seen)
		}
		texts = append(texts, b.s.Encode())
		for _, e := range l[from:] {
			b.see(t, e)
			texts = append(texts, b.s.Encode())
		}
		rest := l[from:]
		fast := s.roll(len(rest) + 1)
		for range 20 {
			keep, at, turn := s.roll(1500), s.roll(1<<16), s.roll(1<<16)
			d := logged(t, texts[0], true, rest, fast)
			d.Crash(keep, at, turn)
			u, n := anew(t, d)
			if want := left(rest, fast, keep, at, turn); n != want || u.Encode() != texts[n] {
				t.Fatalf("at seed %d: %d are found, not %d, the text %q", seed, n, want, u.Encode())
			}
		}
	}
}

// P8.3: what comes back goes on: crash by crash, what is lost is made once more, and what is fast stays.
func TestGoesOnBehindCrashes(t *testing.T) {
	for seed := range 60 {
		s := dice(seed)
		l := s.history(40, 0, 1, 2)
		d := disk.New(api.MaxFile)
		log, _ := aof.Open(d)
		u, fast, at := New(), 0, 0
		for at < len(l) {
			switch s.roll(8) {
			case 0:
				log.Sync()
				fast = at
			case 1:
				if log.Rewrite(u.Encode(), nil) != api.OK {
					t.Fatal("Rewrite")
				}
				fast = at
			case 2:
				d.Crash(s.roll(400), s.roll(1<<16), s.roll(1<<16))
				u, _ = anew(t, d)
				log, _ = aof.Open(d)
				was := at
				for at = 0; at < len(l) && has(u.VV(), l[at].Dot); at++ {
				}
				if at < fast || at > was {
					t.Fatalf("at seed %d: %d are left of %d, of which %d were fast", seed, at, was, fast)
				}
				fast = at
			default:
				if log.Add(l[at]) != api.OK || u.Apply(l[at]) != api.OK {
					t.Fatalf("at seed %d: %v isn't seen", seed, l[at])
				}
				at++
			}
		}
		b := both{s: u}
		for _, e := range l {
			b.p.see(e)
		}
		b.is(t, "all seen in the end")
	}
}
