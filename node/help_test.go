package node_test

import (
	"crypto/sha256"
	"encoding/binary"
	"math"
	"math/rand"
	"slices"
	"testing"

	"indenture/api"
	"indenture/node"
	"indenture/page"
)

// dims: all dimensions that there are, and some on both sides that there aren't.
var dims = []int{math.MinInt, -1, 0, 1, 2, 3, 4, 5, 6, 7, 8, 9, 10, 255, 256, math.MaxInt}

// row tells n numbers, those of unlike salts unlike; both ends are among them.
func row(n int, salt int64) api.Row {
	r := make(api.Row, n)
	for i := range r {
		r[i] = (salt+1)*(int64(i)+3) - 20
	}
	if n > 1 && salt%3 == 0 {
		r[1] = math.MinInt64 + salt
	}
	if n > 2 && salt%2 == 0 {
		r[2] = math.MaxInt64 - salt
	}
	return r
}

func live(r api.Row) api.Entry { return api.Entry{Row: r, Live: true} }
func dead(r api.Row) api.Entry { return api.Entry{Row: r} }

func fork(e api.Entry, first, second api.Kid) api.Node {
	return api.Node{Kind: 1, Rows: []api.Entry{e}, Kids: []api.Kid{first, second}}
}

func leaf(rows ...api.Row) api.Node {
	n := api.Node{Kind: 2}
	for _, r := range rows {
		n.Rows = append(n.Rows, live(r))
	}
	return n
}

func inner(kids ...api.Kid) api.Node { return api.Node{Kind: 3, Kids: kids} }

// digest tells a digest that isn't zero; of unlike salts they are unlike.
func digest(salt int64) api.Digest {
	return sha256.Sum256(binary.BigEndian.AppendUint64(nil, uint64(salt)))
}

// keyless tells a kid of d dimensions without a Key, some of whose entries are live.
func keyless(d int, salt int64) api.Kid {
	a, b := row(d, salt), row(d, salt+1)
	for i := range a {
		a[i], b[i] = min(a[i], b[i]), max(a[i], b[i])
	}
	return api.Kid{Sum: digest(salt), Box: api.Box{Lo: a, Hi: b}, Live: 3 + int(salt&7), Size: 5 + int(salt&15)}
}

// lifeless tells a kid without a Key, all of whose entries are dead.
func lifeless(salt int64) api.Kid { return api.Kid{Sum: digest(salt), Size: 1 + int(salt&7)} }

// keyed is a kid with a Key of d numbers.
func keyed(k api.Kid, d int, salt int64) api.Kid {
	k.Key = row(d, salt)
	return k
}

// good tells nodes of each kind that may be, with each count of entries and kids that there is.
func good(d int) []api.Node {
	kid := func(salt int64) api.Kid { return keyed(keyless(d, salt), d, salt+5) }
	return []api.Node{
		fork(live(row(d, 1)), api.Kid{}, api.Kid{}),
		fork(dead(row(d, 2)), api.Kid{}, api.Kid{}),
		fork(live(row(d, 3)), keyless(d, 4), api.Kid{}),
		fork(live(row(d, 5)), api.Kid{}, keyless(d, 6)),
		fork(dead(row(d, 7)), keyless(d, 8), keyless(d, 9)),
		fork(live(row(d, 10)), keyless(d, 11), lifeless(12)),
		fork(dead(row(d, 13)), lifeless(14), lifeless(15)),
		fork(dead(row(d, 16)), lifeless(17), keyless(d, 18)),
		leaf(row(d, 19)),
		leaf(row(d, 20), row(d, 21)),
		leaf(row(d, 24), row(d, 23), row(d, 22)),
		leaf(row(d, 25), row(d, 26), row(d, 27), row(d, 28)),
		inner(kid(29), kid(30)),
		inner(kid(31), keyed(lifeless(32), d, 32), kid(33)),
		inner(kid(34), kid(34), kid(35), kid(36)),
		inner(keyed(lifeless(37), d, 38), keyed(lifeless(39), d, 40)),
	}
}

// turnedKid is a kid of which one part was turned, and what was done.
type turnedKid struct {
	what string
	kid  api.Kid
}

// turn tells a copy of a kid that was turned.
func turn(k api.Kid, by func(k *api.Kid)) api.Kid {
	k = copyKid(k)
	by(&k)
	return k
}

// rowsOf tells where the three rows of a kid stand.
var rowsOf = []func(k *api.Kid) *api.Row{
	func(k *api.Kid) *api.Row { return &k.Box.Lo },
	func(k *api.Kid) *api.Row { return &k.Box.Hi },
	func(k *api.Kid) *api.Row { return &k.Key },
}

// others tells kids that are unlike a kid in one part alone, each way.
func others(k api.Kid) []turnedKid {
	var l []turnedKid
	add := func(what string, by func(k *api.Kid)) { l = append(l, turnedKid{what, turn(k, by)}) }
	for _, bit := range []int{0, 7, 100, 255} {
		add("sum", func(k *api.Kid) { k.Sum[bit/8] ^= 1 << (bit % 8) })
	}
	for _, by := range []int{-1, 1, 1 << 40} {
		add("live", func(k *api.Kid) { k.Live += by })
		add("size", func(k *api.Kid) { k.Size += by })
	}
	for at, part := range rowsOf {
		what := []string{"lo", "hi", "key"}[at]
		for i := range *part(&k) {
			add(what+" of another number", func(k *api.Kid) { (*part(k))[i] ^= 1 })
		}
		add(what+" of one number more", func(k *api.Kid) { *part(k) = append(*part(k), 0) })
		if n := len(*part(&k)); n > 0 {
			add(what+" of one number less", func(k *api.Kid) { *part(k) = (*part(k))[:n-1] })
		}
	}
	return l
}

// kidMayBe: may a kid be, by the chapter's words.
func kidMayBe(k api.Kid, d int) bool {
	boxed := d >= 1 && d <= 8 && len(k.Box.Lo) == d && len(k.Box.Hi) == d
	for i := 0; boxed && i < d; i++ {
		boxed = k.Box.Lo[i] <= k.Box.Hi[i]
	}
	unboxed := len(k.Box.Lo)+len(k.Box.Hi) == 0
	sizes := k.Size >= 1 && k.Size <= 1<<20 && k.Live >= 0 && k.Live <= k.Size
	return none(k) || sizes && (k.Live > 0 && boxed || k.Live == 0 && unboxed)
}

// none: is a kid the empty tree, by the chapter's words.
func none(k api.Kid) bool {
	return k.Sum == api.Digest{} && k.Live == 0 && k.Size == 0 && len(k.Box.Lo)+len(k.Box.Hi)+len(k.Key) == 0
}

// mayBe: may a node be, by the chapter's words.
func mayBe(n api.Node, d int) bool {
	wrong, tombs, keyless, keyed := 0, 0, 0, 0
	for _, e := range n.Rows {
		wrong += one(len(e.Row) != d)
		tombs += one(!e.Live)
	}
	for _, k := range n.Kids {
		wrong += one(!kidMayBe(k, d))
		keyless += one(len(k.Key) == 0)
		keyed += one(len(k.Key) == d && !none(k))
	}
	rows, kids := len(n.Rows), len(n.Kids)
	fork := n.Kind == 1 && rows == 1 && kids == 2 && keyless == 2
	leaf := n.Kind == 2 && rows >= 1 && rows <= 4 && tombs == 0 && kids == 0
	inner := n.Kind == 3 && rows == 0 && kids >= 2 && kids <= 4 && keyed == kids
	return d >= 1 && d <= 8 && wrong == 0 && (fork || leaf || inner)
}

func one(is bool) int {
	if is {
		return 1
	}
	return 0
}

// bytesOf puts a node's bytes together by the chapter's words, also those of one that may not be, as far as its counts have bytes.
func bytesOf(n api.Node) []byte {
	b := []byte{n.Kind, byte(len(n.Rows))}
	for _, e := range n.Rows {
		b = rowBytes(append(b, byte(one(e.Live))), e.Row)
	}
	b = append(b, byte(len(n.Kids)))
	for _, k := range n.Kids {
		b = append(b, k.Sum[:]...)
		for _, c := range []int{k.Live, k.Size} {
			b = append(b, byte(c>>16), byte(c>>8), byte(c))
		}
		b = rowBytes(rowBytes(rowBytes(b, k.Box.Lo), k.Box.Hi), k.Key)
	}
	return b
}

func rowBytes(b []byte, r api.Row) []byte {
	b = append(b, byte(len(r)))
	for _, x := range r {
		b = binary.BigEndian.AppendUint64(b, uint64(x)+1<<63)
	}
	return b
}

// sum tells the sum of a page, by another SHA-256.
func sum(b []byte) api.Digest {
	return sha256.Sum256(append(binary.BigEndian.AppendUint64([]byte{80}, uint64(len(b))), b...))
}

// says tells what a node says, by the chapter's words, and how many entries there are.
func says(n api.Node) api.Kid {
	k := api.Kid{Sum: sum(bytesOf(n)), Size: len(n.Rows)}
	var corners []api.Row
	for _, e := range n.Rows {
		if e.Live {
			k.Live++
			corners = append(corners, e.Row)
		}
	}
	for _, c := range n.Kids {
		k.Live += c.Live
		k.Size += c.Size
		if c.Live > 0 {
			corners = append(corners, c.Box.Lo, c.Box.Hi)
		}
	}
	for i, p := range corners {
		if i == 0 {
			k.Box = api.Box{Lo: slices.Clone(p), Hi: slices.Clone(p)}
		}
		for j, x := range p {
			k.Box.Lo[j], k.Box.Hi[j] = min(k.Box.Lo[j], x), max(k.Box.Hi[j], x)
		}
	}
	if n.Kind == 2 {
		k.Key = slices.Clone(n.Rows[0].Row)
	} else if n.Kind == 3 {
		k.Key = slices.Clone(n.Kids[0].Key)
	}
	return k
}

// alike: are two kids the same, by the chapter's words.
func alike(a, b api.Kid) bool {
	return a.Sum == b.Sum && a.Live == b.Live && a.Size == b.Size && slices.Equal(a.Key, b.Key) &&
		slices.Equal(a.Box.Lo, b.Box.Lo) && slices.Equal(a.Box.Hi, b.Box.Hi)
}

// alikeNodes: are two nodes the same?
func alikeNodes(a, b api.Node) bool {
	return a.Kind == b.Kind && slices.EqualFunc(a.Kids, b.Kids, alike) &&
		slices.EqualFunc(a.Rows, b.Rows, func(x, y api.Entry) bool { return x.Live == y.Live && slices.Equal(x.Row, y.Row) })
}

func copyKid(k api.Kid) api.Kid {
	k.Box = api.Box{Lo: slices.Clone(k.Box.Lo), Hi: slices.Clone(k.Box.Hi)}
	k.Key = slices.Clone(k.Key)
	return k
}

func copyNode(n api.Node) api.Node {
	n.Rows, n.Kids = slices.Clone(n.Rows), slices.Clone(n.Kids)
	for i := range n.Rows {
		n.Rows[i].Row = slices.Clone(n.Rows[i].Row)
	}
	for i := range n.Kids {
		n.Kids[i] = copyKid(n.Kids[i])
	}
	return n
}

// number tells one of few numbers, so that some are the same, or any one.
func number(random *rand.Rand) int64 {
	switch random.Intn(4) {
	case 0:
		return int64(random.Uint64()) >> random.Intn(64)
	case 1:
		return []int64{math.MinInt64, math.MinInt64 + 1, math.MaxInt64 - 1, math.MaxInt64}[random.Intn(4)]
	}
	return int64(random.Intn(7) - 3)
}

func numbers(random *rand.Rand, n int) api.Row {
	r := make(api.Row, n)
	for i := range r {
		r[i] = number(random)
	}
	return r
}

// anyKid tells a kid of d dimensions that may be, and isn't the empty tree.
func anyKid(random *rand.Rand, d int) api.Kid {
	k := api.Kid{Sum: digest(random.Int63()), Size: 1 + random.Intn(1<<18)>>random.Intn(18)}
	if random.Intn(4) == 0 {
		return k
	}
	k.Live = 1 + random.Intn(k.Size)
	k.Box = api.Box{Lo: numbers(random, d), Hi: numbers(random, d)}
	for i := range d {
		k.Box.Lo[i], k.Box.Hi[i] = min(k.Box.Lo[i], k.Box.Hi[i]), max(k.Box.Lo[i], k.Box.Hi[i])
	}
	return k
}

// anyNode tells a node of d dimensions that may be, whose entries are no more than may be, too.
func anyNode(random *rand.Rand, d int) api.Node {
	n := api.Node{Kind: byte(1 + random.Intn(3))}
	switch n.Kind {
	case 1:
		n = fork(api.Entry{Row: numbers(random, d), Live: random.Intn(2) == 0}, api.Kid{}, api.Kid{})
		for i := range n.Kids {
			if random.Intn(3) > 0 {
				n.Kids[i] = anyKid(random, d)
			}
		}
	case 2:
		for range 1 + random.Intn(4) {
			n.Rows = append(n.Rows, live(numbers(random, d)))
		}
	case 3:
		for range 2 + random.Intn(3) {
			k := anyKid(random, d)
			k.Key = numbers(random, d)
			n.Kids = append(n.Kids, k) // four times 1<<18 is as many as may be
		}
	}
	return n
}

// refused holds against a node that may not be what each call must tell of it.
func refused(t *testing.T, n api.Node, d int, what ...any) {
	t.Helper()
	if node.Right(n, d) {
		t.Errorf("it may be: %v", what)
	}
	if b, err := node.Encode(n, d); len(b) != 0 || err != api.ErrArg {
		t.Errorf("Encode: %d bytes, error %d: %v", len(b), err, what)
	}
	unsaid(t, n, d, what...)
}

// unsaid holds against a node that says nothing what Say and Put must tell of it.
func unsaid(t *testing.T, n api.Node, d int, what ...any) {
	t.Helper()
	if k, err := node.Say(n, d); !none(k) || err != api.ErrArg {
		t.Errorf("Say: %+v, error %d: %v", k, err, what)
	}
	s := page.New()
	one := s.Put([]byte("one"))
	if k, err := node.Put(s, n, d); !none(k) || err != api.ErrArg {
		t.Errorf("Put: %+v, error %d: %v", k, err, what)
	}
	if s.Len() != 1 || !s.Has(one) {
		t.Errorf("Put kept something: %v", what)
	}
}

// undecoded holds against bytes that are no node's what Decode must tell of them, and Get of a page of them, whatever kid it is asked by.
func undecoded(t *testing.T, b []byte, d int, k api.Kid, what ...any) {
	t.Helper()
	if n, err := node.Decode(b, d); !alikeNodes(n, api.Node{}) || err != api.ErrForm {
		t.Errorf("Decode: %+v, error %d: %v", n, err, what)
	}
	s := page.New()
	k.Sum = s.Put(b)
	ungot(t, s, k, d, what...)
}

// ungot holds against a kid what Get must tell, where there is no such node.
func ungot(t *testing.T, s *page.Store, k api.Kid, d int, what ...any) {
	t.Helper()
	if n, err := node.Get(s, k, d); !alikeNodes(n, api.Node{}) || err != api.ErrForm {
		t.Errorf("Get: %+v, error %d: %v", n, err, what)
	}
}
