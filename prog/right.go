package prog

import (
	"slices"

	"argosy/api"
)

// rightKeys tells whether the declared keys are right, of whichever kind the transaction is.
func rightKeys(t api.Txn) bool {
	if len(t.Reads)+len(t.Writes) > api.MaxKeys || !rise(t.Reads) || !rise(t.Writes) {
		return false
	}
	both := func(key string) bool { return Writes(t, key) }
	return !slices.ContainsFunc(t.Reads, both) &&
		!slices.ContainsFunc(t.Reads, isNoKey) &&
		!slices.ContainsFunc(t.Writes, isNoKey)
}

// rise tells whether each of some texts comes ahead of the next one.
func rise(texts []string) bool {
	for i := 1; i < len(texts); i++ {
		if texts[i-1] >= texts[i] {
			return false
		}
	}
	return true
}

func isNoKey(key string) bool {
	return key == "" || len(key) > api.MaxKey
}

// rightKind tells whether a transaction, whose keys are right, has what its kind has, and no more.
func rightKind(t api.Txn, regions int) bool {
	switch t.Kind {
	case api.TxRun:
		wrong := func(op api.Op) bool { return !rightOp(op, t) }
		return t.To == 0 && len(t.Ops) <= api.MaxOps && !slices.ContainsFunc(t.Ops, wrong)
	case api.TxMove:
		return len(t.Reads) == 0 && len(t.Ops) == 0 && len(t.Writes) == 1 && t.To >= 0 && t.To < regions
	}
	return false
}

// rightOp tells whether an operation has a key, a value and a number as its kind lets it.
func rightOp(op api.Op, t api.Txn) bool {
	written := Writes(t, op.Key)
	declared := written || slices.Contains(t.Reads, op.Key)
	noValue, noNumber := len(op.Value) == 0, op.N == 0
	if len(op.Value) > api.MaxValue {
		return false
	}
	switch op.Kind {
	case api.OpRead, api.OpAbsent:
		return declared && noValue && noNumber
	case api.OpWrite:
		return written && noNumber
	case api.OpDelete:
		return written && noValue && noNumber
	case api.OpCheck:
		return declared && noNumber
	case api.OpAdd:
		return written && noValue
	case api.OpEmit:
		return op.Key == "" && noNumber
	}
	return false
}
