package disk

import (
	"bytes"
	"math"
	"slices"
	"strconv"
	"strings"
	"testing"

	"thresher/api"
)

// told holds what steps told against what they must tell.
func told(t *testing.T, got []api.Errno, want ...api.Errno) {
	t.Helper()
	if !slices.Equal(got, want) {
		t.Errorf("told %v, want %v", got, want)
	}
}

// written is the names of a disk, with the bytes of each.
func written(d *Disk) string {
	var l []string
	for _, name := range d.Names() {
		b, e := d.Read(name)
		if e != api.OK {
			b = []byte("error " + strconv.Itoa(int(e)))
		}
		l = append(l, name+"="+string(b))
	}
	return strings.Join(l, " ")
}

func has(t *testing.T, d *Disk, want string) {
	t.Helper()
	if got := written(d); got != want {
		t.Errorf("the disk has %.300q, want %.300q", got, want)
	}
}

// disk is a disk with room, on which the steps of the script were taken, one behind the other: see take.
func disk(t *testing.T, script string) *Disk {
	t.Helper()
	d := New(1000)
	for _, line := range strings.Split(script, ";") {
		if e := take(d, strings.Fields(line)); e != api.OK {
			t.Fatalf("%s: %d", line, e)
		}
	}
	return d
}

// stepper is what takes steps: the disk, and what the tests hold it against.
type stepper interface {
	Create(name string) api.Errno
	Append(name string, b []byte) api.Errno
	Sync(name string) api.Errno
	SyncDir() api.Errno
	Rename(from, to string) api.Errno
	Remove(name string) api.Errno
}

// take takes the step that words tell.
func take(d stepper, words []string) api.Errno {
	switch words[0] {
	case "create":
		return d.Create(words[1])
	case "append":
		return d.Append(words[1], []byte(words[2]))
	case "sync":
		return d.Sync(words[1])
	case "keep":
		return d.SyncDir()
	case "rename":
		return d.Rename(words[1], words[2])
	case "remove":
		return d.Remove(words[1])
	}
	panic(words[0])
}

// each takes a step of each kind, none of which has an error on a disk of the file a alone, and tells what they told.
func each(d *Disk) []api.Errno {
	return []api.Errno{d.Create("b"), d.Append("a", []byte("12")), d.Sync("a"), d.SyncDir(), d.Rename("b", "c"), d.Remove("c")}
}

// same is six times what is told.
func same(e api.Errno) []api.Errno {
	return []api.Errno{e, e, e, e, e, e}
}

// P8.1
func TestNew(t *testing.T) {
	for _, quota := range []int{math.MinInt, -1, 0, 1, 5, math.MaxInt} {
		d := New(quota)
		if d.Used() != 0 || d.Steps() != 0 || len(d.Names()) != 0 {
			t.Errorf("%d bytes, %d steps, %v", d.Used(), d.Steps(), d.Names())
		}
		if b, e := d.Read("a"); len(b) != 0 || e != api.ErrNone {
			t.Error(b, e)
		}
		has(t, d.Crash(9, []int{9}), "")
	}
}

// P8.1, P8.2
func TestTheQuota(t *testing.T) {
	for _, x := range []struct {
		quota int
		texts []string
		want  []api.Errno
	}{
		{math.MinInt, []string{"", "1"}, []api.Errno{api.OK, api.ErrSpace}},
		{-1, []string{"", "1"}, []api.Errno{api.OK, api.ErrSpace}},
		{0, []string{"", "1"}, []api.Errno{api.OK, api.ErrSpace}},
		{1, []string{"", "1", "", "1"}, []api.Errno{api.OK, api.OK, api.OK, api.ErrSpace}},
		{2, []string{"123", "12", "1", ""}, []api.Errno{api.ErrSpace, api.OK, api.ErrSpace, api.OK}},
		{3, []string{"1", "123", "12"}, []api.Errno{api.OK, api.ErrSpace, api.OK}},
		{math.MaxInt, []string{"1", "123", "12"}, []api.Errno{api.OK, api.OK, api.OK}},
	} {
		d := New(x.quota)
		d.Create("a")
		var got []api.Errno
		for _, s := range x.texts {
			got = append(got, d.Append("a", []byte(s)))
		}
		told(t, got, x.want...)
	}
}

// P8.1: a step is counted whatever it tells, and nothing else is one.
func TestSteps(t *testing.T) {
	d := New(3)
	d.Fail([]int{13})
	for i, step := range []func() api.Errno{
		func() api.Errno { return d.Create("a") },
		func() api.Errno { return d.Create("a") },
		func() api.Errno { return d.Create("") },
		func() api.Errno { return d.Append("a", []byte("xyz")) },
		func() api.Errno { return d.Append("a", []byte("z")) },
		func() api.Errno { return d.Append("b", nil) },
		func() api.Errno { return d.Sync("a") },
		func() api.Errno { return d.Sync("b") },
		func() api.Errno { return d.SyncDir() },
		func() api.Errno { return d.Rename("a", "b") },
		func() api.Errno { return d.Rename("a", "b") },
		func() api.Errno { return d.Rename("b", "") },
		func() api.Errno { return d.SyncDir() },
		func() api.Errno { return d.Remove("b") },
		func() api.Errno { return d.Remove("b") },
	} {
		step()
		d.Read("a")
		d.Read("b")
		d.Names()
		d.Used()
		d.Limit(99)
		d.Clone().SyncDir()
		d.Crash(9, nil).SyncDir()
		if d.Steps() != i+1 {
			t.Errorf("%d steps behind %d", d.Steps(), i+1)
		}
	}
}

// P8.1: the steps up to the limit are taken, and none behind it, whichever it is.
func TestLimit(t *testing.T) {
	for limit := range 7 {
		d := disk(t, "create a; append a xyz")
		d.Limit(2 + limit)
		told(t, each(d), slices.Concat(same(api.OK)[:limit], same(api.ErrDead)[limit:])...)
		if d.Steps() != 2+limit {
			t.Errorf("%d steps, with a limit of %d", d.Steps(), 2+limit)
		}
	}
}

// P8.1: each kind of step ends at the limit, and changes nothing.
func TestLimitOfEachKind(t *testing.T) {
	for _, line := range []string{"create b", "append a 12", "sync a", "keep", "rename a b", "remove a", "create a", "append b 1", "sync b", "rename b a", "remove b"} {
		d := disk(t, "create a; append a xyz; sync a; append a 1")
		d.Limit(4)
		if e := take(d, strings.Fields(line)); e != api.ErrDead {
			t.Errorf("%s: %d", line, e)
		}
		if d.Steps() != 4 || d.Used() != 4 || !slices.Equal(d.Names(), []string{"a"}) {
			t.Errorf("%s: %d, %d, %v", line, d.Steps(), d.Used(), d.Names())
		}
		has(t, d.Crash(0, nil), "")
		has(t, d.Crash(1, nil), "a=xyz")
		has(t, d.Crash(9, []int{1}), "a=xyz1")
	}
}

// P8.1
func TestLimitsThatArePassed(t *testing.T) {
	for _, limit := range []int{math.MinInt, -1, 0, 1, 2} {
		d := disk(t, "create a; append a xyz")
		d.Limit(limit)
		// It is the next step that ends it.
		has(t, d, "a=xyz")
		told(t, each(d), same(api.ErrDead)...)
		has(t, d, "a=error 34")
		if d.Steps() != 2 {
			t.Errorf("%d steps, with a limit of %d", d.Steps(), limit)
		}
	}
	d := New(9)
	d.Limit(-1)
	told(t, []api.Errno{d.SyncDir()}, api.ErrDead)
	d = New(9)
	d.Limit(0)
	told(t, []api.Errno{d.SyncDir()}, api.ErrDead)
}

// P8.1: a later limit holds instead, as long as none has ended the disk.
func TestLaterLimits(t *testing.T) {
	d := disk(t, "create a; append a xyz")
	d.Limit(2)
	d.Limit(4)
	told(t, []api.Errno{d.SyncDir(), d.SyncDir()}, api.OK, api.OK)
	d.Limit(math.MaxInt)
	told(t, each(d), same(api.OK)...)
	d.Limit(3)
	told(t, []api.Errno{d.SyncDir()}, api.ErrDead)
	for _, limit := range []int{100, math.MaxInt, 0, -1} {
		d.Limit(limit)
		told(t, each(d), same(api.ErrDead)...)
	}
}

// P8.1: on a dead disk each step, and Read, tells ErrDead, ahead of each other error; what was is told still.
func TestDead(t *testing.T) {
	d := disk(t, "create a; append a xyz; create b")
	d.Limit(3)
	d.Fail([]int{4, 5, 6})
	long := strings.Repeat("a", 21)
	told(t, []api.Errno{
		d.Create("c"), d.Create("a"), d.Create(""), d.Create(long),
		d.Append("a", nil), d.Append("c", nil), d.Append("a", make([]byte, 2000)),
		d.Sync("a"), d.Sync("c"), d.SyncDir(),
		d.Rename("a", "c"), d.Rename("a", ""), d.Rename("c", "a"),
		d.Remove("a"), d.Remove("c"),
	}, api.ErrDead, api.ErrDead, api.ErrDead, api.ErrDead, api.ErrDead, api.ErrDead, api.ErrDead, api.ErrDead, api.ErrDead, api.ErrDead, api.ErrDead, api.ErrDead, api.ErrDead, api.ErrDead, api.ErrDead)
	for _, name := range []string{"a", "b", "c", "", long} {
		if b, e := d.Read(name); len(b) != 0 || e != api.ErrDead {
			t.Error(name, b, e)
		}
	}
	if d.Steps() != 3 || d.Used() != 3 || !slices.Equal(d.Names(), []string{"a", "b"}) {
		t.Error(d.Steps(), d.Used(), d.Names())
	}
	c := d.Clone()
	c.Limit(99)
	told(t, append(each(c), c.SyncDir()), append(same(api.ErrDead), api.ErrDead)...)
	if _, e := c.Read("a"); e != api.ErrDead || c.Steps() != 3 || c.Used() != 3 {
		t.Error(e, c.Steps(), c.Used())
	}
	// What is found behind the crash lives.
	has(t, d.Crash(2, []int{3}), "a=xyz b=")
}

// P8.1: each kind of step fails, as those that are named fail, and changes nothing but of an Append.
func TestFailOfEachKind(t *testing.T) {
	for line, want := range map[string]string{
		"create b":      "a=xyz1",
		"append a 1234": "a=xyz112",
		"append a 123":  "a=xyz11",
		"append a 1":    "a=xyz1",
		"sync a":        "a=xyz1",
		"keep":          "a=xyz1",
		"rename a b":    "a=xyz1",
		"remove a":      "a=xyz1",
	} {
		d := disk(t, "create a; append a xyz; sync a; append a 1")
		d.Fail([]int{5})
		if e := take(d, strings.Fields(line)); e != api.ErrFault {
			t.Errorf("%s: %d", line, e)
		}
		has(t, d, want)
		has(t, d.Crash(0, nil), "")
		has(t, d.Crash(1, nil), "a=xyz")
		has(t, d.Crash(2, []int{-1}), want)
		// The same step may be done behind it.
		if e := take(d, strings.Fields(line)); e != api.OK || d.Steps() != 6 {
			t.Errorf("%s: %d, %d steps", line, e, d.Steps())
		}
	}
}

// P8.1, P8.2: a step that fails is told so ahead of each other error, and then nothing is put.
func TestFailIsToldFirst(t *testing.T) {
	for _, step := range []func(d *Disk) api.Errno{
		func(d *Disk) api.Errno { return d.Create("") },
		func(d *Disk) api.Errno { return d.Create("a") },
		func(d *Disk) api.Errno { return d.Append("b", []byte("12")) },
		func(d *Disk) api.Errno { return d.Append("a", make([]byte, 998)) },
		func(d *Disk) api.Errno { return d.Append("a", make([]byte, 5000)) },
		func(d *Disk) api.Errno { return d.Sync("b") },
		func(d *Disk) api.Errno { return d.Rename("a", "") },
		func(d *Disk) api.Errno { return d.Rename("b", "a") },
		func(d *Disk) api.Errno { return d.Remove("b") },
	} {
		d := disk(t, "create a; append a xyz")
		d.Fail([]int{3})
		told(t, []api.Errno{step(d)}, api.ErrFault)
		has(t, d, "a=xyz")
		if e := step(d); e == api.OK || e == api.ErrFault {
			t.Error(e)
		}
	}
}

// P8.1: what just has room puts its half, if it fails.
func TestFailOfAFullDisk(t *testing.T) {
	d := New(5)
	d.Create("a")
	d.Fail([]int{2, 3, 4, 5, 6})
	told(t, []api.Errno{d.Append("a", []byte("123456")), d.Append("a", []byte("12345")), d.Append("a", []byte("6789")), d.Append("a", []byte("678")), d.Append("a", nil)}, api.ErrFault, api.ErrFault, api.ErrFault, api.ErrFault, api.ErrFault)
	has(t, d, "a=126")
	told(t, []api.Errno{d.Append("a", []byte("789")), d.Append("a", []byte("78"))}, api.ErrSpace, api.OK)
}

// P8.1: the numbers are those of all steps from the first one on, which is 1.
func TestWhichStepsFail(t *testing.T) {
	for steps, want := range map[string]string{
		"":                      "000000",
		"1":                     "100000",
		"6":                     "000001",
		"0 -1 7 8":              "000000",
		"5 2 5 2":               "010010",
		"6 5 4 3 2 1":           "111111",
		"3 9223372036854775807": "001000",
		"-9223372036854775808":  "000000",
	} {
		var l []int
		for _, s := range strings.Fields(steps) {
			n, _ := strconv.Atoi(s)
			l = append(l, n)
		}
		d := New(9)
		d.Fail(l)
		got := ""
		for range 6 {
			e := d.SyncDir()
			got += map[api.Errno]string{api.OK: "0", api.ErrFault: "1"}[e]
		}
		if got != want {
			t.Errorf("of %q %s fail, want %s", steps, got, want)
		}
	}
}

// P8.1: later numbers stand in the stead of those ahead.
func TestLaterFails(t *testing.T) {
	d := New(9)
	d.Fail([]int{1, 2, 3, 4, 5})
	told(t, []api.Errno{d.SyncDir()}, api.ErrFault)
	d.Fail([]int{1, 3, 7})
	told(t, []api.Errno{d.SyncDir(), d.SyncDir(), d.SyncDir()}, api.OK, api.ErrFault, api.OK)
	d.Fail([]int{})
	d.Fail(nil)
	told(t, []api.Errno{d.SyncDir(), d.SyncDir(), d.SyncDir()}, api.OK, api.OK, api.OK)
}

// P8.1: what is not taken does not fail, and what fails is taken.
func TestFailAndLimit(t *testing.T) {
	d := New(9)
	d.Fail([]int{1, 3})
	d.Limit(2)
	told(t, []api.Errno{d.SyncDir(), d.SyncDir(), d.SyncDir(), d.SyncDir()}, api.ErrFault, api.OK, api.ErrDead, api.ErrDead)
}

// P8.2: a name has 1 to 20 bytes, whichever they are.
func TestNamesThatMayBe(t *testing.T) {
	for _, name := range []string{"a", "\x00", " ", "\xff", "..", strings.Repeat("a", 19), strings.Repeat("a", 20), strings.Repeat("é", 10)} {
		d := New(9)
		told(t, []api.Errno{d.Create(name), d.Append(name, []byte("1")), d.Create("q"), d.Rename("q", name), d.Rename(name, "r"), d.Rename("r", name), d.Remove(name)}, api.OK, api.OK, api.OK, api.OK, api.OK, api.OK, api.OK)
	}
	for _, name := range []string{"", strings.Repeat("a", 21), strings.Repeat("é", 10) + "a", strings.Repeat("é", 11), strings.Repeat("a", 5000)} {
		d := disk(t, "create q; append q 1")
		told(t, []api.Errno{d.Create(name), d.Rename("q", name), d.Rename("r", name), d.Append(name, nil), d.Sync(name), d.Rename(name, "r"), d.Rename(name, name), d.Remove(name)}, api.ErrArg, api.ErrArg, api.ErrArg, api.ErrNone, api.ErrNone, api.ErrNone, api.ErrArg, api.ErrNone)
		if b, e := d.Read(name); len(b) != 0 || e != api.ErrNone {
			t.Error(b, e)
		}
		has(t, d, "q=1")
	}
}

// P8.2
func TestCreate(t *testing.T) {
	d := disk(t, "create a; append a xyz")
	told(t, []api.Errno{d.Create("a"), d.Create("b"), d.Create("b")}, api.ErrThere, api.OK, api.ErrThere)
	has(t, d, "a=xyz b=")
	// A new file has nothing of one that had the name.
	told(t, []api.Errno{d.Remove("a"), d.Create("a")}, api.OK, api.OK)
	has(t, d, "a= b=")
}

// P8.2
func TestMaxFiles(t *testing.T) {
	d := New(9)
	for i := range 200 {
		if e := d.Create(strconv.Itoa(i)); e != api.OK {
			t.Fatal(i, e)
		}
	}
	told(t, []api.Errno{d.Create("a"), d.Create("7"), d.Create("")}, api.ErrSpace, api.ErrThere, api.ErrArg)
	told(t, []api.Errno{d.Append("7", []byte("x")), d.Rename("7", "a"), d.Create("7"), d.Remove("8"), d.Create("7"), d.Create("8")}, api.OK, api.OK, api.ErrSpace, api.OK, api.OK, api.ErrSpace)
	told(t, []api.Errno{d.Rename("9", "a"), d.Create("9"), d.Create("8")}, api.OK, api.OK, api.ErrSpace)
	if len(d.Names()) != 200 || d.Used() != 0 {
		t.Error(len(d.Names()), d.Used())
	}
	// The names of the files alone are counted, not those that are kept.
	c := d.Crash(999, nil)
	told(t, []api.Errno{c.Create("8"), c.Remove("9"), c.Create("8")}, api.ErrSpace, api.OK, api.OK)
}

// P8.2
func TestAppend(t *testing.T) {
	d := New(6)
	told(t, []api.Errno{d.Append("a", nil), d.Append("a", make([]byte, 9))}, api.ErrNone, api.ErrNone)
	d.Create("a")
	d.Create("b")
	told(t, []api.Errno{d.Append("a", []byte("xy")), d.Append("b", []byte("12")), d.Append("a", []byte("z\x00")), d.Append("a", []byte("1")), d.Append("b", []byte{}), d.Append("b", nil)}, api.OK, api.OK, api.OK, api.ErrSpace, api.OK, api.OK)
	has(t, d, "a=xyz\x00 b=12")
	// What has no name has no bytes that are counted.
	told(t, []api.Errno{d.Append("a", []byte("123")), d.Remove("b"), d.Append("a", []byte("123")), d.Append("a", []byte("12")), d.Append("a", []byte("1"))}, api.ErrSpace, api.OK, api.ErrSpace, api.OK, api.ErrSpace)
	told(t, []api.Errno{d.Create("c"), d.Rename("c", "a"), d.Append("a", []byte("1234567")), d.Append("a", []byte("123456"))}, api.OK, api.OK, api.ErrSpace, api.OK)
	has(t, d, "a=123456")
}

// P8.2, P8.4: more than the quota may be found behind a crash; then there is no room, not for none either.
func TestAppendOfAnOverfullDisk(t *testing.T) {
	d := New(5)
	for _, line := range []string{"create a", "create b", "keep", "append a 12345", "sync a", "remove a", "append b 6789", "sync b"} {
		if e := take(d, strings.Fields(line)); e != api.OK {
			t.Fatal(line, e)
		}
	}
	c := d.Crash(0, nil)
	has(t, c, "a=12345 b=6789")
	told(t, []api.Errno{c.Append("a", []byte("1")), c.Append("b", nil), c.Remove("b"), c.Append("a", nil), c.Append("a", []byte("1"))}, api.ErrSpace, api.ErrSpace, api.OK, api.OK, api.ErrSpace)
}

// P8.2: Sync is of the file's bytes so far, and of no name.
func TestSync(t *testing.T) {
	d := disk(t, "create a; create b; keep; append a xy; append b 12; sync a; append a z")
	told(t, []api.Errno{d.Sync("c"), d.Sync("")}, api.ErrNone, api.ErrNone)
	has(t, d.Crash(0, nil), "a=xy b=")
	d.Sync("a")
	has(t, d.Crash(0, nil), "a=xyz b=")
	d.Sync("b")
	has(t, d.Crash(0, nil), "a=xyz b=12")
	// It follows the file, not the name.
	for script, want := range map[string]string{
		"create a; keep; rename a b; append b xy; sync b":                    "a=xy",
		"create a; keep; remove a; create a; append a xy; sync a":            "a=",
		"create a; create b; keep; rename a b; append b xy; sync b":          "a=xy b=",
		"create a; append a x; keep; append a y; rename a b; sync b":         "a=xy",
		"create a; append a x; keep; append a y; rename a a; sync a":         "a=xy",
		"create a; append a x; sync a; create b; keep; rename b a; sync a":   "a=x b=",
		"create a; append a x; create b; keep; append b y; remove a; sync b": "a= b=y",
	} {
		has(t, disk(t, script).Crash(0, nil), want)
	}
}

// P8.2: SyncDir is of the names, and of no bytes.
func TestSyncDir(t *testing.T) {
	d := disk(t, "create a; append a xyz; create b; sync b")
	has(t, d.Crash(0, []int{9}), "")
	d.SyncDir()
	has(t, d.Crash(0, nil), "a= b=")
	has(t, d.Crash(0, []int{3}), "a=xyz b=")
	d.Rename("a", "c")
	d.Remove("b")
	has(t, d.Crash(0, []int{3}), "a=xyz b=")
	d.SyncDir()
	has(t, d.Crash(0, []int{3}), "c=xyz")
	has(t, d.Crash(9, []int{3}), "c=xyz")
	d.Remove("c")
	d.SyncDir()
	has(t, d.Crash(0, []int{3}), "")
}

// P8.2
func TestRename(t *testing.T) {
	long := strings.Repeat("c", 21)
	d := disk(t, "create a; append a xyz; create b; append b 12")
	told(t, []api.Errno{d.Rename("a", ""), d.Rename("a", long), d.Rename("c", "a"), d.Rename("c", "c"), d.Rename("c", "d"), d.Rename("c", long), d.Rename("", "a")}, api.ErrArg, api.ErrArg, api.ErrNone, api.ErrNone, api.ErrNone, api.ErrArg, api.ErrNone)
	has(t, d, "a=xyz b=12")
	told(t, []api.Errno{d.Rename("a", "a"), d.Rename("b", "c"), d.Rename("b", "c")}, api.OK, api.OK, api.ErrNone)
	has(t, d, "a=xyz c=12")
	told(t, []api.Errno{d.Rename("a", "c"), d.Append("c", []byte("1")), d.Append("a", nil)}, api.OK, api.OK, api.ErrNone)
	has(t, d, "c=xyz1")
	if d.Used() != 4 {
		t.Error(d.Used())
	}
}

// P8.2
func TestRemove(t *testing.T) {
	d := disk(t, "create a; append a xyz; create b; append b 12")
	told(t, []api.Errno{d.Remove("c"), d.Remove(""), d.Remove("a"), d.Remove("a"), d.Append("a", nil), d.Sync("a"), d.Rename("a", "c")}, api.ErrNone, api.ErrNone, api.OK, api.ErrNone, api.ErrNone, api.ErrNone, api.ErrNone)
	has(t, d, "b=12")
}

// P8.3
func TestReadAndUsed(t *testing.T) {
	all := make([]byte, 256)
	for i := range all {
		all[i] = byte(i)
	}
	d := New(1 << 20)
	d.Create("a")
	d.Create("b")
	want := []byte{}
	for n := range 257 {
		if e := d.Append("a", all[:n]); e != api.OK {
			t.Fatal(n, e)
		}
		want = append(want, all[:n]...)
		if b, e := d.Read("a"); !bytes.Equal(b, want) || e != api.OK || d.Used() != len(want) {
			t.Fatalf("%d bytes, %d, %d used", len(b), e, d.Used())
		}
	}
	if b, e := d.Read("b"); len(b) != 0 || e != api.OK {
		t.Error(b, e)
	}
	if b, e := d.Read("c"); len(b) != 0 || e != api.ErrNone {
		t.Error(b, e)
	}
}

// P8.3: the order is that of bytes, not of letters.
func TestNames(t *testing.T) {
	want := []string{"\x00", "\x00\x00", " ", "0", "A", "B", "a", "a\x00", "aa", "ab", "b", "p10", "p2", "z", "\x80", "\xc3", "é", "\xff"}
	d := New(9)
	for i := range want {
		// 18 and 7 share no factor: so each name comes once, and none where it belongs.
		if e := d.Create(want[i*7%len(want)]); e != api.OK {
			t.Fatal(e)
		}
		if !slices.IsSorted(d.Names()) || len(d.Names()) != i+1 {
			t.Error(d.Names())
		}
	}
	if !slices.Equal(d.Names(), want) {
		t.Errorf("%q, want %q", d.Names(), want)
	}
}

// P8.3: what becomes of a clone, or of the disk that it is of, does not show in the other one.
func TestCloneIsItsOwn(t *testing.T) {
	start := func() *Disk {
		d := disk(t, "create a; append a xyz; sync a; create b; keep; append a 12; rename b c; create d")
		d.Fail([]int{20})
		return d
	}
	was := "a=xyz12 c= d="
	for i, change := range []func(d *Disk){
		func(d *Disk) { d.Create("e") },
		func(d *Disk) { d.Append("a", []byte("3")) },
		func(d *Disk) { d.Sync("a") },
		func(d *Disk) { d.SyncDir() },
		func(d *Disk) { d.Rename("a", "c") },
		func(d *Disk) { d.Remove("a") },
		func(d *Disk) { d.Fail([]int{9}) },
		func(d *Disk) { d.Limit(0); d.SyncDir() },
	} {
		one, two := start(), start()
		other, that := one.Clone(), two.Clone()
		change(one)
		change(that)
		for _, d := range []*Disk{other, two} {
			has(t, d, was)
			has(t, d.Crash(0, nil), "a=xyz b=")
			has(t, d.Crash(1, []int{1}), "a=xyz1 c=")
			has(t, d.Crash(2, []int{2}), "a=xyz12 c= d=")
			if e := d.SyncDir(); e != api.OK || d.Steps() != 9 {
				t.Error(i, e, d.Steps())
			}
		}
	}
}

// P8.3: a clone is as the disk is, in what it does from then on too.
func TestCloneIsAsTheDisk(t *testing.T) {
	d := New(5)
	d.Create("a")
	d.Append("a", []byte("xyz"))
	d.Fail([]int{4, 6})
	d.Limit(7)
	c := d.Clone()
	if c.Steps() != 2 || c.Used() != 3 {
		t.Error(c.Steps(), c.Used())
	}
	told(t, []api.Errno{c.Append("a", []byte("123")), c.SyncDir(), c.SyncDir(), c.SyncDir(), c.SyncDir(), c.SyncDir()}, api.ErrSpace, api.ErrFault, api.OK, api.ErrFault, api.OK, api.ErrDead)
}

// Both go the same way from then on: neither takes room of the other's.
func TestClonesGoTheirWays(t *testing.T) {
	d := disk(t, "create a; append a 1; append a 2; append a 3; append a 4; append a 5; create b; create c; create d; create e; create f")
	c := d.Clone()
	d.Append("a", []byte("d"))
	c.Append("a", []byte("c"))
	d.Create("g")
	c.Create("h")
	has(t, d, "a=12345d b= c= d= e= f= g=")
	has(t, c, "a=12345c b= c= d= e= f= h=")
	has(t, d.Crash(99, []int{6}), "a=12345d b= c= d= e= f= g=")
	has(t, c.Crash(99, []int{6}), "a=12345c b= c= d= e= f= h=")
}

// P8.4: the examples of the document.
func TestCrash(t *testing.T) {
	d := disk(t, "create a; append a xy; sync a")
	has(t, d.Crash(0, nil), "")
	d.SyncDir()
	d.Append("a", []byte("z"))
	has(t, d.Crash(0, nil), "a=xy")
	has(t, d.Crash(0, []int{1}), "a=xyz")
}

// P8.4: the first of the changes are done again, in order, of each kind.
func TestCrashChanges(t *testing.T) {
	d := disk(t, "create a; append a x; sync a; create b; append b y; sync b; keep; rename a c; create a; append a z; sync a; rename b a; rename c c; remove c; create b")
	for i, want := range []string{"a=x b=y", "b=y c=x", "a=z b=y c=x", "a=y c=x", "a=y c=x", "a=y", "a=y b="} {
		has(t, d.Crash(i, nil), want)
	}
	for _, i := range []int{math.MinInt, -1000, -1} {
		has(t, d.Crash(i, nil), "a=x b=y")
	}
	for _, i := range []int{7, 1000, math.MaxInt} {
		has(t, d.Crash(i, nil), "a=y b=")
	}
}

// P8.4: what was not done is no change.
func TestCrashKnowsNoChangeThatWasNotDone(t *testing.T) {
	d := disk(t, "create a")
	d.Fail([]int{7, 8, 9})
	told(t, []api.Errno{d.Create("a"), d.Create(""), d.Rename("b", "a"), d.Rename("a", ""), d.Remove("b"), d.Create("b"), d.Rename("a", "b"), d.Remove("a"), d.Create("c"), d.Remove("a")}, api.ErrThere, api.ErrArg, api.ErrNone, api.ErrArg, api.ErrNone, api.ErrFault, api.ErrFault, api.ErrFault, api.OK, api.OK)
	d.Limit(11)
	d.Create("e")
	for i, want := range []string{"", "a=", "a= c=", "c=", "c="} {
		has(t, d.Crash(i, nil), want)
	}
}

// P8.4: x is taken from 0 up to n, n too, whatever its sign.
func TestCrashTails(t *testing.T) {
	d := disk(t, "create a; append a xyz; sync a; append a 1234; keep")
	for x, want := range map[int]string{
		0: "xyz", 1: "xyz1", 2: "xyz12", 3: "xyz123", 4: "xyz1234", 5: "xyz", 6: "xyz1", 9: "xyz1234", 10: "xyz",
		-1: "xyz1234", -2: "xyz123", -4: "xyz1", -5: "xyz", -6: "xyz1234",
		// 2^63 modulo 5 is 3.
		math.MaxInt: "xyz12", math.MinInt: "xyz12",
	} {
		has(t, d.Crash(0, []int{x}), "a="+want)
	}
	has(t, d.Crash(0, []int{}), "a=xyz")
}

// P8.4: what is safe in whole has one way to be left, whatever x is; what is not at all may be left without a byte.
func TestCrashTailsAtTheEdges(t *testing.T) {
	d := disk(t, "create a; append a xyz; sync a; create b; create c; append c 1; keep")
	for x, want := range map[int]string{0: "", 1: "1", 2: "", -1: "1", -2: "", math.MaxInt: "1", math.MinInt: ""} {
		has(t, d.Crash(0, []int{x}), "a=xyz b= c="+want)
	}
}

// P8.4: the names that are found are numbered, in their order, those too of which nothing is at stake.
func TestCrashTailsGoByNames(t *testing.T) {
	d := disk(t, "create e; create d; create c; create b; create a; append a 123; append b 123; append d 123; append e 123; keep")
	for _, x := range []struct {
		tails []int
		want  string
	}{
		{[]int{1, 2, 3, 0, 1}, "a=1 b=12 c= d= e=1"},
		{[]int{1, 2, 3, 0, 1, 2, 3}, "a=1 b=12 c= d= e=1"},
		{[]int{1, 2}, "a=1 b=12 c= d=12 e=1"},
		{[]int{1, 2, 3}, "a=1 b=12 c= d=1 e=12"},
		{[]int{-1, 0}, "a=123 b= c= d= e=123"},
		{[]int{2}, "a=12 b=12 c= d=12 e=12"},
	} {
		has(t, d.Crash(0, x.tails), x.want)
	}
	// The names are those behind the changes that are done again.
	d.Remove("b")
	d.Rename("a", "z")
	has(t, d.Crash(0, []int{1, 2, 3, 0}), "a=1 b=12 c= d= e=1")
	has(t, d.Crash(1, []int{1, 2, 3, 0}), "a=1 c= d=123 e=")
	has(t, d.Crash(2, []int{1, 2, 3, 0}), "c= d=12 e=123 z=")
}

// P8.4: all that is found is safe, and kept.
func TestCrashedDisk(t *testing.T) {
	d := New(6)
	for _, line := range []string{"create a", "append a xy", "create b", "rename b c"} {
		take(d, strings.Fields(line))
	}
	d.Fail([]int{1, 2, 3, 4, 5})
	d.Limit(4)
	d.SyncDir()
	c := d.Crash(3, []int{1})
	if c.Steps() != 0 || c.Used() != 1 {
		t.Error(c.Steps(), c.Used())
	}
	has(t, c, "a=x c=")
	has(t, c.Crash(0, nil), "a=x c=")
	has(t, c.Crash(9, []int{9}), "a=x c=")
	told(t, []api.Errno{c.SyncDir(), c.SyncDir(), c.SyncDir(), c.SyncDir(), c.Append("a", []byte("123456")), c.Append("a", []byte("12345"))}, api.OK, api.OK, api.OK, api.OK, api.ErrSpace, api.OK)
	has(t, c.Crash(0, nil), "a=x c=")
}

// P8.4: a file that was found is another one than what is made behind the crash, by the same name and the same number of a step too.
func TestFilesOfTwoLives(t *testing.T) {
	for _, script := range []string{"keep; create a; append a xy", "create a; append a xy", "keep; keep; create a; append a xy"} {
		c := disk(t, script).Crash(1, []int{2})
		told(t, []api.Errno{c.Rename("a", "b"), c.Create("a"), c.Append("a", []byte("1")), c.Create("c")}, api.OK, api.OK, api.OK, api.OK)
		has(t, c, "a=1 b=xy c=")
		has(t, c.Crash(0, []int{1}), "a=xy")
		has(t, c.Crash(9, []int{1}), "a=1 b=xy c=")
		told(t, []api.Errno{c.Remove("b"), c.Create("b")}, api.OK, api.OK)
		has(t, c, "a=1 b= c=")
	}
}

// P8.4: the disk stays as it is, and neither sees what becomes of the other.
func TestCrashLeavesTheDisk(t *testing.T) {
	d := disk(t, "create a; append a xy; sync a; append a 1; keep; create b; append b 2; remove a")
	c := d.Crash(1, []int{1})
	c.Append("a", []byte("c"))
	c.Append("b", []byte("c"))
	c.Create("f")
	d.Append("b", []byte("d"))
	d.Create("e")
	has(t, c, "a=xy1c b=2c f=")
	has(t, d, "b=2d e=")
	has(t, d.Crash(0, nil), "a=xy")
	has(t, d.Crash(1, []int{1, 2}), "a=xy1 b=2d")
	if d.Steps() != 10 {
		t.Error(d.Steps())
	}
}

// R1: a disk that New did not make has no room, and does no harm.
func TestADiskOfNothing(t *testing.T) {
	told(t, each(&Disk{}), api.OK, api.ErrNone, api.ErrNone, api.OK, api.OK, api.OK)
	for _, d := range []*Disk{{}, (&Disk{}).Clone(), (&Disk{}).Crash(1, nil)} {
		told(t, []api.Errno{d.Remove("a"), d.Rename("a", "b"), d.Sync("a"), d.SyncDir(), d.Append("a", nil), d.Create("a"), d.Append("a", nil), d.Append("a", []byte("1"))}, api.ErrNone, api.ErrNone, api.ErrNone, api.OK, api.ErrNone, api.OK, api.OK, api.ErrSpace)
		has(t, d, "a=")
		has(t, d.Crash(0, nil), "")
		has(t, d.Crash(1, nil), "a=")
	}
	d := &Disk{}
	d.Fail([]int{1})
	d.Limit(1)
	told(t, []api.Errno{d.Create("a"), d.Create("a")}, api.ErrFault, api.ErrDead)
}

// R7
func TestNothingIsShared(t *testing.T) {
	d := New(100)
	d.Create("a")
	given := []byte("xyz")
	d.Append("a", given)
	given[0] = '-'
	one, _ := d.Read("a")
	one[1] = '-'
	_ = append(one, '-')
	names := d.Names()
	names[0] = "b"
	has(t, d, "a=xyz")
	steps := []int{4, 5}
	d.Fail(steps)
	clear(steps)
	two, _ := d.Read("a")
	told(t, []api.Errno{d.Append("a", []byte("1")), d.Append("a", []byte("23")), d.Append("a", []byte("45")), d.Append("a", []byte("67"))}, api.OK, api.ErrFault, api.ErrFault, api.OK)
	has(t, d, "a=xyz12467")
	if string(two) != "xyz" {
		t.Error(two)
	}
	tails := []int{-7, 1000}
	c := d.Crash(1, tails)
	if !slices.Equal(tails, []int{-7, 1000}) {
		t.Error(tails)
	}
	three, _ := c.Read("a")
	d.Append("a", []byte("8"))
	has(t, c, "a=xy")
	if string(three) != "xy" {
		t.Error(three)
	}
}

// plain is a disk as the document tells of it, at its plainest: it holds all names that there were since they were kept last.
type plain struct {
	past []map[string]*plainFile
}

type plainFile struct {
	data string
	safe int
}

func (p *plain) now() map[string]*plainFile { return p.past[len(p.past)-1] }

func (p *plain) next(change func(names map[string]*plainFile)) api.Errno {
	names := map[string]*plainFile{}
	for name, f := range p.now() {
		names[name] = f
	}
	change(names)
	p.past = append(p.past, names)
	return api.OK
}

func (p *plain) Create(name string) api.Errno {
	if p.now()[name] != nil {
		return api.ErrThere
	}
	return p.next(func(names map[string]*plainFile) { names[name] = &plainFile{} })
}

func (p *plain) Append(name string, b []byte) api.Errno {
	f := p.now()[name]
	if f == nil {
		return api.ErrNone
	}
	f.data += string(b)
	return api.OK
}

func (p *plain) Sync(name string) api.Errno {
	f := p.now()[name]
	if f == nil {
		return api.ErrNone
	}
	f.safe = len(f.data)
	return api.OK
}

func (p *plain) SyncDir() api.Errno {
	p.past = p.past[len(p.past)-1:]
	return api.OK
}

func (p *plain) Rename(from, to string) api.Errno {
	f := p.now()[from]
	if f == nil {
		return api.ErrNone
	}
	return p.next(func(names map[string]*plainFile) {
		names[to] = f
		if from != to {
			delete(names, from)
		}
	})
}

func (p *plain) Remove(name string) api.Errno {
	if p.now()[name] == nil {
		return api.ErrNone
	}
	return p.next(func(names map[string]*plainFile) { delete(names, name) })
}

// left is what a crash leaves of it.
func (p *plain) left(changes int, tails []int) string {
	names := p.past[changes]
	var sorted []string
	for name := range names {
		sorted = append(sorted, name)
	}
	slices.Sort(sorted)
	for i, name := range sorted {
		f := names[name]
		x := 0
		if len(tails) > 0 {
			x = tails[i%len(tails)]
			for x < 0 {
				x += len(f.data) - f.safe + 1
			}
			x %= len(f.data) - f.safe + 1
		}
		sorted[i] = name + "=" + f.data[:f.safe+x]
	}
	return strings.Join(sorted, " ")
}

// tailsOfAll are ways in which the bytes that are not safe may be left.
func tailsOfAll() [][]int {
	return [][]int{nil, {1}, {-1}, {2, 0}, {0, 1, 3}, {5, -3, 1, 0, 2}}
}

// holds holds a disk against the plain one: what it has, and what each crash leaves.
func holds(t *testing.T, script []string, d *Disk, p *plain) {
	t.Helper()
	last := len(p.past) - 1
	all := p.left(last, []int{-1})
	if got := written(d); got != all {
		t.Fatalf("%v: the disk has %q, want %q", script, got, all)
	}
	for changes := -1; changes <= last+1; changes++ {
		for _, tails := range tailsOfAll() {
			got, want := written(d.Crash(changes, tails)), p.left(min(max(changes, 0), last), tails)
			if got != want {
				t.Fatalf("%v: Crash(%d, %v) finds %q, want %q", script, changes, tails, got, want)
			}
		}
	}
}

// lines are the steps of which scripts are made.
func lines() []string {
	return []string{"create a", "create b", "append a 12", "append b 3", "sync a", "sync b", "keep", "rename a b", "rename b a", "rename a a", "remove a", "remove b"}
}

// P8.1 to P8.4: of each script of four of the steps, or fewer.
func TestAllShortScripts(t *testing.T) {
	var work func(script []string)
	work = func(script []string) {
		d, p := New(1000), &plain{past: []map[string]*plainFile{{}}}
		for _, line := range script {
			words := strings.Fields(line)
			if got, want := take(d, words), take(p, words); got != want {
				t.Fatalf("%v: %s tells %d, want %d", script, line, got, want)
			}
		}
		holds(t, script, d, p)
		if len(script) < 4 {
			for _, line := range lines() {
				work(append(slices.Clone(script), line))
			}
		}
	}
	work(nil)
}

// P8.1 to P8.4: of long scripts, by a fixed rule, each step of which is taken by a clone, or behind a crash, at times.
func TestLongScripts(t *testing.T) {
	for seed := range uint32(60) {
		x := seed
		next := func(n int) int {
			x = x*1664525 + 1013904223
			return int(x>>16) % n
		}
		d, p := New(1000), &plain{past: []map[string]*plainFile{{}}}
		var script []string
		for range 80 {
			line := lines()[next(len(lines()))]
			script = append(script, line)
			words := strings.Fields(line)
			if next(4) == 0 {
				d = d.Clone()
			}
			if got, want := take(d, words), take(p, words); got != want {
				t.Fatalf("%v: %s tells %d, want %d", script, line, got, want)
			}
			holds(t, script, d, p)
			if next(40) == 0 {
				script = append(script, "crash")
				d = d.Crash(1000, []int{-1})
				p.SyncDir()
				for _, f := range p.now() {
					f.safe = len(f.data)
				}
				holds(t, script, d, p)
			}
		}
	}
}

// P8.5: whatever becomes of the disk, what was made safe under a name that is kept is found by each crash, as long as no step takes the name away.
func TestWhatIsSafeIsThere(t *testing.T) {
	harmless := []string{"create b", "append a 12", "append b 3", "sync a", "sync b", "keep", "rename b c", "create b", "remove b", "append c 4", "remove c"}
	for seed := range uint32(200) {
		x := seed
		next := func(n int) int {
			x = x*1664525 + 1013904223
			return int(x>>16) % n
		}
		d := disk(t, "create a; append a safe; sync a; keep; append a unsafe")
		d.Fail([]int{next(30) + 5, next(30) + 5, next(30) + 5})
		d.Limit(next(40))
		for range 30 {
			take(d, strings.Fields(harmless[next(len(harmless))]))
			for changes := range 6 {
				for _, tails := range tailsOfAll() {
					c := d.Crash(changes, tails)
					for range 3 {
						if b, e := c.Read("a"); e != api.OK || !strings.HasPrefix(string(b), "safe") {
							t.Fatalf("%d: Crash(%d, %v) finds %q, %d", seed, changes, tails, b, e)
						}
						c.Append("a", []byte("more"))
						c = c.Crash(changes, tails)
					}
				}
			}
		}
	}
}

// P8.5: a name that is taken away is there, with its bytes, till that is kept.
func TestWhatIsTakenAwayIsThereTillKept(t *testing.T) {
	for _, line := range []string{"remove a", "rename a b", "rename b a"} {
		d := disk(t, "create a; append a safe; sync a; create b; keep; "+line)
		d.Fail([]int{7})
		told(t, []api.Errno{d.SyncDir()}, api.ErrFault)
		has(t, d.Crash(0, nil), "a=safe b=")
		d.Limit(7)
		told(t, []api.Errno{d.SyncDir()}, api.ErrDead)
		has(t, d.Crash(0, nil), "a=safe b=")
	}
}

// R6: the same calls tell the same again.
func TestTheSameAgain(t *testing.T) {
	script := ""
	for i := range 100 {
		script += "create n" + strconv.Itoa(i*37%100) + "; append n" + strconv.Itoa(i*37%100) + " " + strconv.Itoa(i) + "00;"
	}
	script += "keep"
	want := written(disk(t, script).Crash(0, []int{1, 2, 0, 3}))
	for range 20 {
		has(t, disk(t, script).Crash(0, []int{1, 2, 0, 3}), want)
	}
}
