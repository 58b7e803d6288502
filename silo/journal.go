package silo

// journal holds the records of the batches that are not laid down.
type journal struct {
	records []byte
	synced  int // how many of the bytes last, whatever stops
}

func (j *journal) hasRecords() bool { return len(j.records) > 0 }

func (j *journal) addRecord(record []byte) {
	j.records = append(j.records, record...)
}

func (j *journal) syncAll() {
	j.synced = len(j.records)
}
