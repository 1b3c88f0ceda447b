package event

import (
	"strings"

	"foliot/api"
)

// kinds is a line for each kind, by their numbers, all lines being of one size: a kind's name, and behind it a letter for each thing that it has: A, B, N (Name), T (Text) and V (Value).
const kinds = `run-started        ABNTV
task-scheduled     .B...
task-started       AB...
task-completed     AB...
task-timed-out     .B...
task-failed        .BN..
activity-scheduled ABN.V
activity-completed A...V
activity-failed    A.N..
activity-timed-out A....
timer-started      AB...
timer-fired        A....
timer-canceled     A....
signal-received    ..N.V
cancel-requested   .....
run-completed      ....V
run-failed         ..N..
run-canceled       .....
run-terminated     ..N..
run-timed-out      .....
continued-as-new   .B..V
`

const lineSize = 25

// fields is letters for what a kind has.
type fields string

func (f fields) has(letter byte) bool { return strings.IndexByte(string(f), letter) >= 0 }

func known(kind int) bool { return api.RunStarted <= kind && kind <= api.ContinuedAsNew }

// about: a kind's name, and what it has; nothing, if it is none.
func about(kind int) (string, fields) {
	if !known(kind) {
		return "", ""
	}
	line := kinds[(kind-1)*lineSize : kind*lineSize]
	name, letters, _ := strings.Cut(line, " ")
	return name, fields(letters)
}

// Name: a kind's name.
func Name(kind int) string {
	name, _ := about(kind)
	return name
}

// Kind: the kind of a name; 0: there is none.
func Kind(name string) int {
	for kind := api.RunStarted; known(kind); kind++ {
		if Name(kind) == name {
			return kind
		}
	}
	return 0
}

// Task: is it bookkeeping of a workflow task?
func Task(e api.Event) bool {
	switch e.Kind {
	case api.TaskScheduled, api.TaskStarted, api.TaskTimedOut, api.TaskFailed:
		return true
	}
	return false
}

// Closes: does it close a run?
func Closes(e api.Event) bool {
	switch e.Kind {
	case api.RunCompleted, api.RunFailed, api.RunCanceled, api.RunTerminated, api.RunTimedOut, api.ContinuedAsNew:
		return true
	}
	return false
}

// Outside: does it come from outside: was it written for somebody's call, an activity's outcome or the time?
func Outside(e api.Event) bool {
	switch e.Kind {
	case api.RunStarted, api.SignalReceived, api.CancelRequested, api.RunTerminated,
		api.ActivityCompleted, api.ActivityFailed, api.ActivityTimedOut,
		api.TimerFired, api.RunTimedOut:
		return true
	}
	return false
}
