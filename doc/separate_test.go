package doc_test

import (
	"fmt"
	"hash/crc32"
	"testing"

	"gouache/api"
	"gouache/digest"
	"gouache/doc"
)

// The numbers of lines and the checksums of this file are those of texts from a separate calculation in another language.

// expectText reports a text with another number of lines, or another checksum.
func expectText(t *testing.T, text []byte, count, wantCount int, wantSum uint32) {
	t.Helper()
	if sum := crc32.ChecksumIEEE(text); count != wantCount || sum != wantSum {
		t.Errorf("%d lines with the checksum %#x", count, sum)
	}
}

// P16.1: the first defects of 3000 documents.
func TestSeparateChecks(t *testing.T) {
	var text []byte
	for seed := range 3000 {
		err, id := doc.Check(scattered(seed))
		text = fmt.Appendf(text, "%d %d %d\n", seed, int(err), id)
	}
	expectText(t, text, 3000, 3000, 0x3c9ddfe1)
}

// P16.4: the orders, the depths and the layers that are used in those of these documents that are valid.
func TestSeparateTrees(t *testing.T) {
	var text []byte
	count := 0
	for seed := range 3000 {
		d := scattered(seed)
		if err, _ := doc.Check(d); err != api.OK {
			continue
		}
		text = fmt.Append(text, seed)
		for _, id := range doc.Order(d) {
			text = fmt.Appendf(text, " %d", id)
		}
		text = append(text, '\n')
		count++
		for _, l := range d.Layers {
			text = fmt.Appendf(text, "%d %d", l.ID, doc.Depth(d, l.ID))
			for _, other := range d.Layers {
				if doc.Uses(d, l.ID, other.ID) {
					text = fmt.Appendf(text, " %d", other.ID)
				}
			}
			text = append(text, '\n')
			count++
		}
	}
	expectText(t, text, count, 8868, 0x5d105f3c)
}

// P16.6: the heads and the keys of all layers of these documents.
func TestSeparateHeads(t *testing.T) {
	var text []byte
	count := 0
	for seed := range 3000 {
		for _, l := range scattered(seed).Layers {
			text = fmt.Appendf(text, "%x %s\n", doc.Head(l), digest.Hex(doc.Key(l)))
			count++
		}
	}
	expectText(t, text, count, 22523, 0xf69613f0)
}
