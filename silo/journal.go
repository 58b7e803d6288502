package silo

// journal holds the records of the batches that are not laid down.
type journal struct {
	records []byte
	synced  int // how many of the bytes last, whatever stops
	ahead   int // the number of the last batch that was laid down: no table tells it, for what is merged may leave nothing
}

func (j *journal) hasRecords() bool { return len(j.records) > 0 }

func (j *journal) addRecord(record []byte) {
	j.records = append(j.records, record...)
}

// hold puts others in the place of the records, and they are synced.
func (j *journal) hold(records string) {
	j.records = []byte(records)
	j.syncAll()
}

func (j *journal) syncAll() {
	j.synced = len(j.records)
}

// outlasting tells the bytes that are left when all stops: those that are synced, and as many of the others as keep says (P13).
func (j *journal) outlasting(keep int) string {
	others := len(j.records) - j.synced
	return string(j.records[:j.synced+rest(keep, others+1)])
}
