package lock

import (
	"bytes"
	"slices"
	"testing"

	"marquee/api"
)

// Of one clock, the main processor's step comes first: the other one finds what it did, not the other way round.
func TestMainFirst(t *testing.T) {
	m := free(t, "stb r1, r2, 15\nldb r3, r4, 0\nhlt\n", "stb r2, r3, 0\nldb r5, r2, 0\nhlt\n")
	m.Main.R[1], m.Main.R[2], m.Main.R[4] = 0xd002, 55, 0xd011
	m.Aux.R[2], m.Aux.R[3] = 0xd018, 66
	m.MainReady, m.AuxReady = 14, 10
	out, _ := run(t, m, 21)
	// At 14 mail is sent, at 20 it is read by both: the other one began to write its own at 10.
	if out.Aux.R[5] != 55 || out.Main.R[3] != 66 || out.Rung || out.Mail != [2]byte{55, 66} {
		t.Errorf("mail: aux %d, main %d, %v, Rung %v", out.Aux.R[5], out.Main.R[3], out.Mail, out.Rung)
	}
	m.MainReady, m.AuxReady = 20, 10
	out, _ = run(t, m, 21)
	if out.Aux.R[5] != 55 || out.Rung {
		t.Errorf("mail that is sent and read at 20: aux %d, Rung %v", out.Aux.R[5], out.Rung)
	}
	m.MainReady, m.AuxReady = 21, 10
	out, _ = run(t, m, 22)
	if out.Aux.R[5] != 0 || !out.Rung {
		t.Errorf("mail that is sent at 21, read at 20: aux %d, Rung %v", out.Aux.R[5], out.Rung)
	}
	m.MainReady, m.AuxReady = 4, 10
	out, _ = run(t, m, 11)
	if out.Main.R[3] != 0 || out.Mail[1] != 66 {
		t.Errorf("mail back that is read and sent at 10: main %d, %v", out.Main.R[3], out.Mail)
	}
}

// Who is let go begins in this clock, who is held does nothing in it any more.
func TestHeldAndLetGo(t *testing.T) {
	m := held(t, "stb r1, r2, 0\nstb r1, r3, 0\nhlt\n", "addi r1, 1\naddi r1, 1\naddi r1, 1\nhlt\n")
	m.Main.R[1], m.Main.R[2], m.Main.R[3] = 0xd010, 1, 3
	m.MainReady, m.AuxReady = 20, 3
	m.Aux.R[1] = 70
	for _, c := range []struct {
		clocks, ready int
		r1            uint16
		isHeld        bool
	}{
		{20, 3, 70, true},
		{21, 25, 1, false},
		{25, 25, 1, false},
		{26, 30, 2, false},
		{27, 30, 2, true}, // the main one's step at 26
		{200, 30, 2, true},
	} {
		out, _ := run(t, m, c.clocks)
		if out.AuxReady != c.ready || out.Aux.R[1] != c.r1 || out.Held != c.isHeld {
			t.Errorf("%d clocks: ready at %d, r1 %d, Held %v, want %+v", c.clocks, out.AuxReady, out.Aux.R[1], out.Held, c)
		}
	}
	m.AuxReady, m.MainReady, m.Held = 26, 20, false
	m.Aux.PC = 6
	m.Main.R[2] = 2
	out, _ := run(t, m, 100)
	if out.Aux.R[1] != 70 || out.AuxReady != 26 {
		t.Errorf("held at 20, ready at 26: r1 %d, ready at %d", out.Aux.R[1], out.AuxReady)
	}
	m.AuxReady = 20
	out, _ = run(t, m, 100)
	if out.Aux.R[1] != 70 || out.AuxReady != 20 {
		t.Errorf("held at 20, ready at 20: r1 %d, ready at %d", out.Aux.R[1], out.AuxReady)
	}
}

// The clocks of steps: three for a cycle of the main one, five for one of the other.
func TestReady(t *testing.T) {
	for _, c := range []struct {
		order  string
		cycles int
	}{
		{"nop\n", 1}, {"ldi r2, 7\n", 2}, {"ld r2, r3, 0\n", 3}, {"mul r2, r3\n", 6}, {"call 6\n", 4}, {"jmp 6\n", 3},
		{"jz 6\n", 2}, {"jnz 6\n", 3}, {"trap\n", 5}, {"rti\n", 5}, {"hlt\n", 1},
	} {
		m := free(t, c.order, c.order)
		m.Clock, m.MainReady, m.AuxReady = 1000, 1003, 0
		out, _ := run(t, m, 4)
		if out.MainReady != 1003+3*c.cycles || out.AuxReady != 1000+5*c.cycles {
			t.Errorf("%q: ready at %d, %d", c.order, out.MainReady, out.AuxReady)
		}
		m.MainReady, m.AuxReady = 1004, 21000
		out, s := run(t, m, 4)
		m.Clock, m.B.At, m.S = 1004, 4, out.S
		if !sameMachine(out, m) || out.S.Wait != 12 || len(s.Writes) > 0 {
			t.Errorf("%q isn't due: %+v", c.order, out)
		}
	}
}

// A transfer takes its clocks from the step in which it begins, by a byte, or by one of a word's.
func TestTransferTime(t *testing.T) {
	for _, c := range []struct {
		order string
		r1    uint16
		n     uint16
		ready int
		moved int
	}{
		{"stb r1, r2, 0\n", 0xd00e, 0, 6, 0},
		{"stb r1, r2, 0\n", 0xd00e, 1, 8, 1},
		{"stb r1, r2, 0\n", 0xd00e, 255, 516, 255},
		{"stb r1, r2, 0\n", 0xd00f, 255, 6, 0},
		{"stb r1, r2, 0\n", 0xdfee, 0xff03, 12, 3},
		{"st r1, r2, 0\n", 0xd00e, 0x0500, 19, 5},
		{"st r1, r2, 0\n", 0xd00d, 0x0006, 21, 6},
		{"push r2\n", 0xd000, 0x0700, 23, 7},
		{"ldb r2, r1, 0\n", 0xd00e, 9, 6, 0},
	} {
		m := held(t, c.order+"hlt\n", "")
		m.Main.R[1], m.Main.R[2], m.Main.R[7] = c.r1, c.n, 0xd010
		m.From = 0xe000
		out, _ := run(t, m, 1)
		if moved := bytes.Count(out.Video, []byte{255}); out.MainReady != c.ready || moved != c.moved {
			t.Errorf("%q, %#x to %#x: ready at %d, %d bytes, want %+v", c.order, c.n, c.r1, out.MainReady, moved, c)
		}
		// Its clocks are those of one step alone.
		m.MainRom = append(m.MainRom[:6], bytes.Repeat(m.MainRom[6:8], 2)...)
		if out, _ := run(t, m, c.ready+1); c.order == "stb r1, r2, 0\n" && out.MainReady != 2*c.ready {
			t.Errorf("%q twice: ready at %d, want %d", c.order, out.MainReady, 2*c.ready)
		}
	}
}

// Being rung may begin a transfer, too: what it pushes goes to where the stack is.
func TestTransferWhenRung(t *testing.T) {
	m := held(t, "nop\n", "")
	m.Main.May, m.T.Rings, m.Main.PC, m.Main.R[7] = true, true, 0x0903, 0xd010
	out, _ := run(t, m, 1)
	if out.MainReady != 18+2*9 {
		t.Errorf("ready at %d", out.MainReady)
	}
}

// Each byte that the other processor writes to a port of the sound is shown, and no other one.
func TestWrites(t *testing.T) {
	for _, c := range []struct {
		order string
		r1    uint16
		want  []api.Write
	}{
		{"stb r1, r2, 0\n", 0xd000, []api.Write{{Clock: 7, At: 0, Value: 0xcd}}},
		{"stb r1, r2, 2\n", 0xd000, []api.Write{{Clock: 7, At: 2, Value: 0xcd}}},
		{"stb r1, r2, -1\n", 0xd000, nil},
		{"stb r1, r2, 5\n", 0xd000, []api.Write{{Clock: 7, At: 5, Value: 0xcd}}},
		{"stb r1, r2, 15\n", 0xd008, []api.Write{{Clock: 7, At: 23, Value: 0xcd}}},
		{"stb r1, r2, 0\n", 0xd018, nil},
		{"stb r1, r2, 0\n", 0xd01f, nil},
		{"stb r1, r2, 0\n", 0xd020, []api.Write{{Clock: 7, At: 0, Value: 0xcd}}},
		{"stb r1, r2, 0\n", 0xdfe9, []api.Write{{Clock: 7, At: 9, Value: 0xcd}}},
		{"stb r1, r2, 0\n", 0xe000, nil},
		{"stb r1, r2, 0\n", 0x8002, nil},
		{"stb r1, r2, 0\n", 0xc002, nil},
		{"stb r1, r2, 0\n", 0x0002, nil},
		{"ldb r2, r1, 2\n", 0xd000, nil},
		{"st r1, r2, 0\n", 0xd008, []api.Write{{Clock: 7, At: 8, Value: 0xab}, {Clock: 7, At: 9, Value: 0xcd}}},
		{"st r1, r2, -1\n", 0xd000, []api.Write{{Clock: 7, At: 0, Value: 0xcd}}},
		{"st r1, r2, 0\n", 0xd017, []api.Write{{Clock: 7, At: 23, Value: 0xab}}},
		{"st r1, r2, 0\n", 0xd01f, []api.Write{{Clock: 7, At: 0, Value: 0xcd}}},
		{"push r2\n", 0, []api.Write{{Clock: 7, At: 6, Value: 0xab}, {Clock: 7, At: 7, Value: 0xcd}}},
		{"call 4660\n", 0, []api.Write{{Clock: 7, At: 6, Value: 0}, {Clock: 7, At: 7, Value: 10}}},
		{"trap\n", 0, []api.Write{{Clock: 7, At: 6, Value: 0}, {Clock: 7, At: 7, Value: 8}, {Clock: 7, At: 4, Value: 0}, {Clock: 7, At: 5, Value: 16}}},
	} {
		m := free(t, "hlt\n", c.order+"hlt\n")
		m.Granted, m.AuxReady = true, 7
		m.Aux.R[1], m.Aux.R[2], m.Aux.R[7], m.Aux.May = c.r1, 0xabcd, 0xd008, true
		if _, s := run(t, m, 20); !slices.Equal(s.Writes, c.want) {
			t.Errorf("%q to %#x: %v, want %v", c.order, c.r1, s.Writes, c.want)
		}
		if _, s := run(t, m, 7); len(s.Writes) != 0 {
			t.Errorf("%q to %#x, ahead of it: %v", c.order, c.r1, s.Writes)
		}
		m.MainRom, m.AuxRom = m.AuxRom, m.MainRom
		m.Main, m.Aux, m.MainReady = m.Aux, m.Main, 7
		if _, s := run(t, m, 20); len(s.Writes) != 0 {
			t.Errorf("%q to %#x of the main one: %v", c.order, c.r1, s.Writes)
		}
	}
}

// Who is rung writes, too, where its stack is.
func TestWritesWhenRung(t *testing.T) {
	m := free(t, "hlt\n", "nop\n")
	m.Aux.May, m.Aux.C, m.Rung, m.Aux.R[7] = true, true, true, 0xd002
	_, s := run(t, m, 1)
	if want := []api.Write{{Clock: 0, At: 0, Value: 0}, {Clock: 0, At: 1, Value: 6}}; !slices.Equal(s.Writes, want) {
		t.Errorf("%v, want %v", s.Writes, want)
	}
}

// A sound is written as it is shown: again and again, in the order of time.
func TestWritesInOrder(t *testing.T) {
	m := free(t, "hlt\n", "again:\nstb r1, r2, 1\naddi r2, 1\nstb r1, r2, 2\njmp again\n")
	m.Clock = 500
	out, s := run(t, m, 200)
	var want []api.Write
	for clock := 500; clock < 700; clock += 40 {
		n := byte((clock - 500) / 40)
		want = append(want, api.Write{Clock: clock, At: 1, Value: n}, api.Write{Clock: clock + 15, At: 2, Value: n + 1})
	}
	if !slices.Equal(s.Writes, want) || out.S.V[0].Loud != 5 || out.S.V[0].Period != 4 {
		t.Errorf("%v, want %v; %+v", s.Writes, want, out.S.V[0])
	}
}

// Only while it may, the other processor comes to the main memory.
func TestGranted(t *testing.T) {
	m := free(t, "stb r1, r2, 0\nstb r1, r3, 0\nhlt\n", "again:\nstb r1, r2, 0\naddi r2, 1\njmp again\n")
	m.Main.R[1], m.Main.R[2], m.MainReady = 0xd010, 1, 60
	m.Aux.R[1], m.Aux.R[2] = 0xc005, 1
	for _, c := range []struct {
		clocks int
		want   byte
	}{
		{60, 0},
		{61, 3}, // Granted at 60, and written then
		{66, 3},
		{67, 3}, // not any more from 66 on
		{200, 3},
	} {
		if out, _ := run(t, m, c.clocks); out.Ram[5] != c.want {
			t.Errorf("%d clocks: %d, want %d", c.clocks, out.Ram[5], c.want)
		}
	}
}
