package device

import (
	"slices"

	"clapper/api"
	"clapper/record"
)

// What appending writes (layer 16): ahead of a record's own bytes in step 1, and
// in step 2.
const (
	lengthBytes = 2
	slotBytes   = 24
)

// tear is where a write is cut off, as Tear was told it.
type tear struct{ step, n int }

// past is what a device's records tell of the next one. Where there is none yet,
// the zero values are those that the chapter asks for: time 0, and a Prev of 0.
type past struct {
	many int
	last api.Record
	link api.Digest // the last one's
}

func pastOf(l [][]byte) past {
	if len(l) == 0 {
		return past{}
	}
	last, link, _, _ := record.Open(l[len(l)-1]) // of a chain: it opens
	return past{len(l), last, link}
}

// refusal is the error of a minute at which nothing may be written.
func (p past) refusal(at int) error {
	if at < 0 || at > api.MaxMinute {
		return api.ErrArg
	}
	if at < p.last.At {
		return api.ErrTime
	}
	return nil
}

// isNotice tells whether the record of a Seq is one.
func isNotice(l [][]byte, seq int) bool {
	return seq >= 0 && seq < len(l) && kindOf(l[seq]) == api.Notice
}

func kindOf(b []byte) int {
	r, _, _, _ := record.Open(b)
	return r.Kind
}

// isVoided tells whether a Void is of that Seq.
func isVoided(l [][]byte, seq int) bool {
	return slices.ContainsFunc(l, func(b []byte) bool {
		r, _, _, _ := record.Open(b)
		return r.Kind == api.Void && r.Serial == seq
	})
}

// write writes a record behind what was written, in the shift that is on.
func (v *Device) write(p past, r api.Record) error {
	if p.many > api.MaxSeq {
		return api.ErrFull
	}
	r.Device, r.Seq, r.Prev = v.id, p.many, p.link
	r.Stop, r.Zone = v.shift.stop, v.shift.zone
	b, err := record.Issue(r, v.secret)
	if err != nil {
		return err
	}
	return v.put(b)
}

// put appends a signed record, or a part of it.
func (v *Device) put(b []byte) error {
	if v.tear == nil {
		return v.journal.Append(b)
	}
	step, all := 2, slotBytes
	if v.tear.step == 1 {
		step, all = 1, lengthBytes+len(b)
	}
	// What the journal refuses isn't written, so that the tear is there for the
	// next one. Once a write is cut off, the journal itself refuses all others.
	if err := v.journal.Tear(b, step, min(max(v.tear.n, 0), all)); err != nil {
		return err
	}
	return api.ErrState
}
