package frame

import (
	"strings"

	"memoir/api"
	"memoir/code"
	"memoir/schema"
)

// Body is a transaction's body.
func Body(t api.Txn) string {
	if !Right(t) {
		return ""
	}
	b := bodyOf(t)
	if len(b) > maxBody {
		return ""
	}
	return b
}

// Decode is a body's transaction.
func Decode(b string) (api.Txn, api.Errno) {
	t := read(code.New(b))
	// A right transaction has one body: what reads as one, but is not how it is written, is no transaction's.
	if !Right(t) || bodyOf(t) != b {
		return api.Txn{}, api.ErrForm
	}
	return t, api.OK
}

// bodyOf is the body of a right transaction, also one that is too long for a frame: its transaction is right nevertheless.
func bodyOf(t api.Txn) string {
	var b strings.Builder
	b.WriteString(code.Uint(uint64(t.Seq)))
	b.WriteString(code.Uint(uint64(t.Time)))
	b.WriteString(code.Uint(uint64(len(t.Changes))))
	for _, c := range t.Changes {
		b.WriteString(code.Uint(uint64(c.Op)))
		b.WriteString(behindOp(c))
	}
	return b.String()
}

// behindOp is what stands behind the Op of a change that may be.
func behindOp(c api.Change) string {
	if c.Op == api.OpTable {
		return code.Text(schema.Encode(c.Def))
	}
	return code.Text(c.Table) + code.Row(c.Row) + code.Uint(uint64(c.Valid.From)) + code.Uint(uint64(c.Valid.To))
}

// read takes more than transactions' bodies (what stands behind the end, say, and what the reader can't read); Decode sees to that.
func read(r *code.Reader) api.Txn {
	var t api.Txn
	t.Seq = int(r.Uint())
	t.Time = int(r.Uint())
	for range min(r.Uint(), maxChanges) {
		t.Changes = append(t.Changes, readChange(r))
	}
	return t
}

func readChange(r *code.Reader) api.Change {
	c := api.Change{Op: int(r.Uint())}
	if c.Op == api.OpTable {
		c.Def, _ = schema.Decode(r.Text()) // bytes that are no schema's are told by a Def that is not right
		c.Table = c.Def.Name
		return c
	}
	c.Table = r.Text()
	c.Row = r.Row()
	c.Valid.From = int(r.Uint())
	c.Valid.To = int(r.Uint())
	return c
}
