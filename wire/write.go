package wire

import "drover/api"

// recordBytes are the bytes of a formed record: so no number is below 0.
func recordBytes(r api.Record) []byte {
	b := []byte{byte(r.Kind())}
	switch x := r.(type) {
	case api.Joined:
		b = addText(b, x.Tenant.Name)
		b = addNumber(b, x.Tenant.Weight)
		return addVector(b, x.Tenant.Quota)
	case api.Up:
		b = addText(b, x.Node)
		b = addNumber(b, x.Epoch)
		return addVector(b, x.Capacity)
	case api.Beat:
		return addText(b, x.Node)
	case api.Down:
		return addText(b, x.Node)
	case api.Submitted:
		return addJob(b, x.Job)
	case api.Released:
		return addNumber(b, x.Job)
	case api.Placed:
		b = addNumber(b, x.Job)
		return addList(b, x.Nodes, addText)
	case api.Evicted:
		return addNumber(b, x.Job)
	case api.Part:
		b = addNumber(b, x.Job)
		return addText(b, x.Node)
	case api.Ended:
		b = addNumber(b, x.Job)
		return addNumber(b, int64(x.State))
	}
	return b
}

func addJob(b []byte, job api.Job) []byte {
	b = addNumber(b, job.ID)
	b = addText(b, job.Tenant)
	b = addNumber(b, job.Priority)
	b = addNumber(b, job.Runtime)
	b = addList(b, job.Parents, addNumber)
	return addList(b, job.Tasks, addVector)
}

func addNumber(b []byte, n int64) []byte {
	for n > 127 {
		b = append(b, byte(n)|128)
		n >>= 7
	}
	return append(b, byte(n))
}

func addText(b []byte, s string) []byte {
	b = addNumber(b, int64(len(s)))
	return append(b, s...)
}

func addVector(b []byte, v api.Vector) []byte {
	for _, n := range v {
		b = addNumber(b, n)
	}
	return b
}

func addList[T any](b []byte, l []T, addOne func([]byte, T) []byte) []byte {
	b = addNumber(b, int64(len(l)))
	for _, x := range l {
		b = addOne(b, x)
	}
	return b
}
