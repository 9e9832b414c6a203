package script_test

import (
	"bytes"
	"fmt"
	"math/rand"
	"strings"
	"testing"

	"classroom/api"
	"classroom/durable"
	"classroom/script"
	"classroom/sector"
)

// play expects an output, given as its lines.
func play(t *testing.T, s string, want ...string) {
	t.Helper()
	w := ""
	for _, l := range want {
		w += l + "\n"
	}
	if got := script.Play(s); got != w {
		t.Errorf("%q: %q, want %q", s, got, w)
	}
}

const setup = `enroll root ann student
enroll root bob student
line task hw
line bounds 100 10 10
line protect lib
line test tests one 5
line test tests two 3
file lib/a.m func k() int { return 1; }
file work/a.m func add(a int, b int) int { return 0; }
hidden tests/a.m import "work";\nfunc one() bool {\n\treturn work.add(1, 2) == 3;\n}\nfunc two() bool { return work.add(0, 0) == 0; }
publish root
reset
`

func TestP33_1_Course(t *testing.T) {
	play(t, "enroll root ann student\nstep root", "ok", "idle")
	play(t, "")
	play(t, setup+`view ann hw
file work/a.m func add(a int, b int) int { return a + b; }
submit ann hw
view ann hw
submit ann hw
reset
file work/a.m #
submit bob hw
view root hw
step root
view root hw
step root
step root
view root hw
view ann hw
view bob hw
reset
file lib/x 
submit bob hw
step root
view bob hw
reset
file a.m func f() int { return 1; }
file a.m/x y
submit bob hw
evict root 3
reset
submit bob hw
step root
view bob hw
`, "ok", "ok", "ok", "tests 2", "ok", "mark ann 1 pending", "tests 2", "ok", "ok", "mark ann 2 pending", "mark bob 1 pending", "tests 2", "graded", "mark ann 2 1 8 1 1", "mark bob 1 pending", "tests 2", "graded", "idle", "mark ann 2 1 8 1 1", "mark bob 1 3 12 0 work/a.m", "tests 2", "mark ann 2 1 8 1 1", "tests 2", "mark bob 1 3 12 0 work/a.m", "tests 2", "ok", "graded", "mark bob 2 2 25 0 lib/x", "tests 2", "error 10", "ok", "ok", "graded", "mark bob 3 1 3 2 1", "tests 2")
	// An issue without a path.
	play(t, setup+"file work x\nsubmit ann hw\nstep root\nview ann hw\n", "ok", "ok", "ok", "ok", "graded", "mark ann 1 2 10 0 ", "tests 2")
	play(t, "line task a\nline bounds 1 1 1\npublish root\nenroll root ann student\nsubmit ann a\nstep root\nview ann a", "ok", "ok", "ok", "graded", "mark ann 1 1 0", "tests 0")
}

func TestP33_1_Bad(t *testing.T) {
	for _, line := range []string{
		"", " ", "x", "reset ", " reset", "reset x", "Reset", "step", "step root x", "step  root", "publish", "publish root x", "submit ann", "submit ann hw x", "view ann", "view ann hw x", "enroll root ann", "enroll root ann student x", "enroll root ann Student", "enroll root ann 1", "enroll root ann ", "enroll  root ann student", "evict root", "evict root x", "evict root -1", "evict root 01", "evict root 1000000000", "evict root ", "evict root 1 ", "evict root +1",
		"cut", "cut ", "cut x", "cut -1", "cut 00", "cut 1 1", "cut 1234567890", "crash", "crash ", "crash 0", "crash 012", "crash 0g", "crash AB", "crash - ", "crash --", "crash 0x", "crash 00 00", "file", "file ", "file a", "hidden", "hidden a", "line", `line \`, `line \x`, `line a\`, `file a \r`, `file a \\\`, `hidden a \"`, "step\troot", "#",
	} {
		play(t, line+"\n", "bad")
		play(t, "step root\n"+line+"\nstep root", "idle", "bad", "idle")
	}
	// An invalid line adds nothing.
	play(t, "line task a\nline bounds 1 1 1\nline \\x\nfile A \\x\nfile A\nline\nhidden A\\\nhidden A \\\npublish root", "bad", "bad", "bad", "bad", "bad", "bad", "ok")
}

func TestP33_1_Words(t *testing.T) {
	// The path of a file is a word that may be empty, and its content may contain spaces and be empty.
	play(t, "line task a\nline bounds 1 1 1\nfile a \npublish root\nfile  x\npublish root\nreset\nfile a  \\n\\t\\\\n \npublish root", "ok", "error 8", "error 13")
	play(t, "step \nenroll root  student\nview  x\nsubmit root \nevict  0\npublish ", "error 28", "error 18", "error 28", "error 27", "error 28", "error 28")
	play(t, "cut 0\ncut 999999999\nenroll root ann student\nstep root", "error 3", "error 7")
	// The escapes of lines and files.
	play(t, "line task a\\nbounds 1 1 1\\npin b 1\nfile b x\npublish root\nreset\nline task a\nline bounds 1 1 1\nline protect a b\npublish root", "error 24", "error 13")
	play(t, "enroll root ann instructor\nstep ann\nenroll ann bob student\nstep bob", "ok", "idle", "ok", "error 27")
}

// pin is the digest of a text, as the document defines it.
func pin(s string) uint32 {
	h := uint32(2166136261)
	for i := range len(s) {
		h = (h ^ uint32(s[i])) * 16777619
	}
	return h ^ h>>16
}

func TestP33_1_Escapes(t *testing.T) {
	for escaped, content := range map[string]string{"": "", " ": " ", `a\nb`: "a\nb", `\t\\n`: "\t\\n", `\\\\`: `\\`, " a  b ": " a  b ", "\xff": "\xff", "größe": "größe", "a\r": "a\r"} {
		play(t, fmt.Sprintf("line task a\nline bounds 1 1 1\nline pin f %d\nfile f %s\npublish root\n", pin(content), escaped), "ok")
		play(t, fmt.Sprintf("line task a\nline bounds 1 1 1\nline pin f %d\nfile f %sx\npublish root\n", pin(content), escaped), "error 24")
	}
}

func TestP33_1_Trees(t *testing.T) {
	const head = "line task a\nline bounds 1 1 1\n"
	play(t, head+"file b x\nfile a y\nhidden d 1\nhidden c 2\npublish root", "ok")
	play(t, head+"file A x\nhidden b x\nhidden b x\npublish root\nsubmit root a", "error 8", "error 8")
	play(t, head+"hidden b x\nhidden b x\npublish root\npublish none\nsubmit root a", "error 9", "error 9", "error 27")
	play(t, head+"file a x\nfile a/b x\nhidden B x\npublish none\nsubmit none a", "error 10", "error 10")
	play(t, "publish root\nline task a\npublish root\nline bounds 1 1 1\npublish root\nline x\npublish root", "error 13", "error 13", "ok", "error 13")
	many := ""
	for i := range 65 {
		many += fmt.Sprintf("file f%d \n", i)
	}
	play(t, head+many+"publish root", "error 2")
	// After reset, the lists and the text are empty.
	play(t, head+"file A x\nhidden A x\nreset\n"+head+"publish root", "ok")
	// The lists and the text stay after a command.
	play(t, head+"publish root\npublish root\nline protect b\npublish root", "ok", "ok", "ok")
}

func TestP33_1_Long(t *testing.T) {
	if got := script.Play(strings.Repeat("\n", 256)); got != strings.Repeat("bad\n", 256) {
		t.Errorf("256 lines: %q", got)
	}
	play(t, strings.Repeat("\n", 257), "long")
	play(t, strings.Repeat("\n", 256)+"x", "long")
	if got := script.Play(strings.Repeat("reset\n", 255) + "step root"); got != "idle\n" {
		t.Errorf("256 lines: %q", got)
	}
	play(t, "line "+strings.Repeat("x", 8187))
	play(t, "line "+strings.Repeat("x", 8186)+"\n")
	play(t, "line "+strings.Repeat("x", 8188), "long")
	play(t, "step root\nline "+strings.Repeat("x", 8188), "long")
}

func TestP33_1_Crash(t *testing.T) {
	play(t, setup+"file work/a.m func add(a int, b int) int { return a + b; }\nsubmit ann hw\ncrash -\nview root hw\nstep root\ncrash 00\nview root hw\ncrash 1011ff00\nview ann hw", "ok", "ok", "ok", "ok", "ok", "mark ann 1 pending", "tests 2", "graded", "ok", "mark ann 1 1 8 1 1", "tests 2", "ok", "mark ann 1 1 8 1 1", "tests 2")
	// The queue has room for eight pairs.
	s, want := "line task a\nline bounds 1 1 1\npublish root\n", []string{"ok"}
	for i := range 9 {
		s += fmt.Sprintf("enroll root u%d student\nsubmit u%d a\n", i, i)
		want = append(want, "ok", "ok")
	}
	want[18] = "error 4"
	play(t, s+"submit u0 a\n", append(want, "ok")...)
	// The lists and the text stay over a crash.
	play(t, "line task a\nline bounds 1 1 1\nfile A x\ncrash -\npublish root\nreset\npublish root", "ok", "error 8", "error 13")
	play(t, "cut 0\nenroll root ann student\nstep root\nview root x\npublish root\nfile A x\npublish root\nsubmit ann x\ncrash -\nenroll root ann student\ncrash -\nenroll root ann student", "error 3", "error 7", "error 7", "error 7", "error 8", "error 8", "ok", "ok", "ok", "error 9")
	// Without a cut, nothing that was acknowledged is lost.
	for _, keep := range []string{"-", "00", "10", "0f0e0d0c", "ffffffff"} {
		play(t, "enroll root ann student\ncrash "+keep+"\nenroll root ann student\nenroll root bob student\ncrash "+keep+"\nenroll root bob student", "ok", "ok", "error 9", "ok", "ok", "error 9")
	}
	// Wherever the power is cut, a command that was acknowledged stays, and one that was not may.
	for cut := range 12 {
		for _, keep := range []string{"-", strings.Repeat("10", 9), strings.Repeat("07", 9)} {
			out := strings.Split(script.Play(fmt.Sprintf("enroll root ann student\ncut %d\nenroll root bob student\ncrash %s\nenroll root ann student\nenroll root bob student\n", cut, keep)), "\n")
			if out[0] != "ok" || out[2] != "ok" || out[3] != "error 9" || out[1] == "ok" && out[4] != "error 9" || out[1] != "ok" && out[1] != "error 3" || out[4] != "ok" && out[4] != "error 9" {
				t.Errorf("cut %d, crash %s: %q", cut, keep, out)
			}
		}
	}
}

// enrolled reports whether bob is there if the power is cut while he is enrolled.
func enrolled(t *testing.T, cut int, keep []byte) bool {
	t.Helper()
	d, _ := sector.New(api.MaxSectors)
	c, _ := durable.Open(d, 8, 8, 8)
	d.Cut(cut)
	c.Do(api.Command{Kind: api.CmEnroll, Actor: "root", User: "bob", Role: api.Student})
	c, e := durable.Open(d.Crash(keep), 8, 8, 8)
	if e != api.OK {
		t.Fatal(e)
	}
	return len(c.State().Users()) == 2
}

func TestP33_1_Keep(t *testing.T) {
	for cut := range 20 {
		if enrolled(t, cut, nil) || !enrolled(t, cut, bytes.Repeat([]byte{16}, 20)) {
			continue
		}
		// Here it depends on the bytes whether the command is kept.
		for n := range 256 {
			keep := bytes.Repeat([]byte{byte(n)}, 20)
			want := []string{"error 3", "ok", "ok"}
			if enrolled(t, cut, keep) {
				want[2] = "error 9"
			}
			play(t, fmt.Sprintf("cut %d\nenroll root bob student\ncrash %x\nenroll root bob student", cut, keep), want...)
		}
		return
	}
	t.Error("no cut leaves it open whether the command is kept")
}

func TestP33_2_Prefix(t *testing.T) {
	r := rand.New(rand.NewSource(33))
	lines := strings.SplitAfter(setup, "\n")
	lines = append(lines, "submit ann hw\n", "submit bob hw\n", "step root\n", "view root hw\n", "view ann hw\n", "evict root 1\n", "cut 9\n", "crash 10ff\n", "crash -\n", "bad\n", "\n", "file work/a.m #\n", "publish root\n")
	for range 60 {
		s := setup
		for range r.Intn(20) {
			s += lines[r.Intn(len(lines))]
		}
		whole := script.Play(s)
		end := 0
		for _, l := range strings.SplitAfter(s, "\n") {
			end += len(l)
			if !strings.HasPrefix(whole, script.Play(s[:end])) {
				t.Fatalf("%q is no beginning of %q", script.Play(s[:end]), whole)
			}
		}
		if script.Play(s) != whole {
			t.Fatal("the output is another one")
		}
	}
}
