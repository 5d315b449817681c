package eventlog_test

import (
	"fmt"
	"math/rand"
	"slices"
	"sync"
	"testing"

	"baseboard/api"
	"baseboard/eventlog"
	"baseboard/flash"
)

// overwrite overwrites all memory of a list, also what lies behind it.
func overwrite(l []api.Event) {
	l = l[:cap(l)]
	for i := range l {
		l[i] = sample(60000)
	}
}

// R2: of logs that read their records and of logs that wrote them.
func TestResultsShareNoMemory(t *testing.T) {
	want := samples(1, 2, 3, 4, 5, 6, 7)
	d := deviceWith(t, full(1, 1, 1), full(2, 1, 4), sector(head(3, 1, 7), slot(sample(7))), nil)
	written := open(t, deviceWith(t, nil, nil, nil, nil), 1, 4, true)
	for _, e := range want {
		checkAdd(t, "Add", written, fresh(e.ID), e.ID, api.OK)
	}
	dropped := open(t, deviceWith(t, full(5, 3, 1), full(6, 4, 4), full(3, 2, 31), full(4, 2, 34)), 1, 4, true)
	checkAdd(t, "Add", dropped, fresh(7), 7, api.OK)
	for name, g := range map[string]*eventlog.Log{"read": open(t, d, 1, 4, true), "written": written, "dropped": dropped} {
		first, again := g.Records(), g.Records()
		overwrite(first)
		if !slices.Equal(again, want) {
			t.Errorf("%s: two results share memory: %v", name, again)
		}
		checkLog(t, name+", a result was overwritten", g, false, want...)
		for id := range uint16(30) {
			_, err := g.Add(fresh(id))
			checkErrno(t, name, err, api.OK)
			if !slices.Equal(again, want) {
				t.Fatalf("%s: a result changed with the log: %v", name, again)
			}
		}
		checkErrno(t, name, g.Clear(g.Reserve()), api.OK)
		checkAdd(t, name, g, fresh(38), 38, api.OK)
		if !slices.Equal(again, want) {
			t.Errorf("%s: a result changed with the log: %v", name, again)
		}
		overwrite(again)
		checkLog(t, name+", at the end", g, false, samples(38)...)
	}
}

// R2: what Open read from a device is not what the log keeps of another one.
func TestLogsOfCopiesAreApart(t *testing.T) {
	d := deviceWith(t, full(1, 1, 1), nil, nil)
	c := d.Clone()
	a, b := open(t, d, 1, 3, false), open(t, c, 1, 3, false)
	checkAdd(t, "a", a, fresh(4), 4, api.OK)
	checkAdd(t, "b", b, fresh(4), 4, api.OK)
	checkAdd(t, "b", b, fresh(5), 5, api.OK)
	checkErrno(t, "a", a.Clear(a.Reserve()), api.OK)
	checkLog(t, "a", a, false)
	checkLog(t, "b", b, false, samples(1, 2, 3, 4, 5)...)
	d.Arm(1, 0)
	checkAdd(t, "a", a, fresh(5), 0, api.ErrPower)
	checkEnded(t, "a", a, d)
	checkLog(t, "b", b, false, samples(1, 2, 3, 4, 5)...)
	checkLog(t, "b again", open(t, c, 1, 3, false), false, samples(1, 2, 3, 4, 5)...)
}

// R2: a log changes nothing of its device outside of its sectors.
func TestLogStaysInItsSectors(t *testing.T) {
	d := newDevice(t, 6, small)
	for i := range 6 {
		program(t, d, i*small, bytesOf(0x5A, small)...)
	}
	g := open(t, d, 2, 3, true)
	for id := range uint16(40) {
		checkAdd(t, "Add", g, fresh(id), id+1, api.OK)
		if id%15 == 0 {
			checkErrno(t, "Clear", g.Clear(g.Reserve()), api.OK)
		}
	}
	b := content(t, d)
	for _, outer := range [][]byte{b[:2*small], b[5*small:]} {
		if !slices.Equal(outer, bytesOf(0x5A, len(outer))) {
			t.Errorf("the bytes outside became % X", outer)
		}
	}
	if wear := d.Wear(); wear[0]+wear[1]+wear[5] > 0 {
		t.Errorf("the wear is %v", wear)
	}
}

// history makes drawn calls of a log of a new device and returns what they lead to.
func history(seed int64) string {
	r := rand.New(rand.NewSource(seed))
	sectors := 2 + r.Intn(3)
	d, _ := flash.New(sectors, 64+r.Intn(60))
	g, _ := eventlog.Open(d, 0, sectors, seed%2 == 0)
	text := ""
	for range 80 {
		switch r.Intn(12) {
		case 0:
			text += fmt.Sprint("clear ", g.Clear(g.Reserve()), " ")
		case 1:
			d.Arm(r.Intn(60), uint8(r.Uint32()))
		case 2:
			d.Restore()
			g, _ = eventlog.Open(d, 0, sectors, seed%2 == 0)
		default:
			id, err := g.Add(drawEvent(r))
			text += fmt.Sprint(id, " ", err, " ")
		}
		text += fmt.Sprint(g.Records(), g.Full(), g.Len(), d.Steps(), d.Wear(), "\n")
	}
	return text
}

// R7: the same calls lead to the same, also when other logs are used at the same time.
func TestResultsDependOnCallsAlone(t *testing.T) {
	const n = 40
	var alone, together [n]string
	for i := range n {
		alone[i] = history(int64(i))
	}
	var wait sync.WaitGroup
	for i := range n {
		wait.Go(func() { together[i] = history(int64(i)) })
	}
	wait.Wait()
	for i := range n {
		if alone[i] != together[i] {
			t.Errorf("history %d is another one when others run beside it", i)
		}
	}
}

// R7: logs that take turns do not see each other.
func TestLogsAreApart(t *testing.T) {
	a, b := open(t, newDevice(t, 3, small), 0, 3, false), open(t, newDevice(t, 3, small), 0, 3, true)
	for id := range uint16(9) {
		if id < 6 {
			checkAdd(t, "a", a, fresh(id+1), id+1, api.OK)
		} else {
			checkAdd(t, "a", a, fresh(id+1), 0, api.ErrFull)
		}
		checkAdd(t, "b", b, fresh(id+1), id+1, api.OK)
	}
	checkReserve(t, a, 1)
	checkReserve(t, a, 2)
	checkReserve(t, b, 1)
	checkLog(t, "a", a, true, samples(1, 2, 3, 4, 5, 6)...)
	checkLog(t, "b", b, false, samples(4, 5, 6, 7, 8, 9)...)
	checkErrno(t, "a", a.Clear(2), api.OK)
	checkLog(t, "b", b, false, samples(4, 5, 6, 7, 8, 9)...)
}
