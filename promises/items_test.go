package promises

import (
	"strings"

	"junction/api"
)

// lineItems has what may be said in lines, each with its line end.
func lineItems() []item {
	all := bytesUpTo(api.MaxValue)
	items := []item{
		whole("get a\n", get("a")), whole("get a b\n", get("a", "b")), whole("get a a\n", get("a", "a")),
		whole("get get set del\n", get("get", "set", "del")),
		whole("get abcdefgh 01234567 z9 0\n", get("abcdefgh", "01234567", "z9", "0")),
		whole("del a\n", del("a")), whole("del 12345678\n", del("12345678")),
		whole("set a 0\n\n", set("a", "")), whole("set a 1\nx\n", set("a", "x")), whole("set a 1\n\n\n", set("a", "\n")),
		whole("set a 2\nxy\n", set("a", "xy")), whole("set abcdefgh 40\n"+all+"\n", set("abcdefgh", all)),
		whole("set a 9\nget b\nset\n", set("a", "get b\nset")), whole("set a 10\n\x00\xff\n\n \xc3\xa9xyz\n", set("a", "\x00\xff\n\n \xc3\xa9xyz")),
		whole("set a 39\n"+all[1:]+"\n", set("a", all[1:])),
		whole("set a 41\n", wrong(api.Big)), whole("set a 50\n", wrong(api.Big)), whole("set a 99\n", wrong(api.Big)),
		whole("set a 100\n", wrong(api.Big)), whole("set abcdefgh 999\n", wrong(api.Big)),
		{"set a 0\nx\n", 9, wrong(api.Data)}, {"set a 1\nxyz\n", 10, wrong(api.Data)}, {"set a 1\n\nget a\n", 10, wrong(api.Data)},
		{"set a 1\nx\r\n", 10, wrong(api.Data)}, {"set a 2\n\n\n \n", 11, wrong(api.Data)},
		{"set a 40\n" + all + "x" + strings.Repeat("get a ", 50) + "\n", 50, wrong(api.Data)},
	}
	for _, n := range []int{61, 62, 63, 120, 121, 122, 1000} {
		items = append(items, item{strings.Repeat("x", n) + "\n", 61, wrong(api.Long)})
	}
	items = append(items,
		item{"get a" + strings.Repeat(" ", 56) + "\n", 61, wrong(api.Long)},
		item{"set a " + strings.Repeat("1", 55) + "\n", 61, wrong(api.Long)},
		item{strings.Repeat("get a b c ", 7) + "\n", 61, wrong(api.Long)})
	for _, line := range wrongLines() {
		items = append(items, whole(line+"\n", wrong(api.Form)))
	}
	return items
}

func wrongLines() []string {
	return []string{
		"", " ", "get", "get ", "get  a", " get a", "get a ", "get a  b", "get a b c d e", "get abcdefghi", "get a abcdefghi",
		"get A", "get a-", "get a\r", "get\ta", "get a\x00", "get \xff", "get \xc3\xa9", "GET a", "Get a", "gets a", "ge a", "a", "get,a", "geta",
		"set", "set ", "set a", "set a ", "set 1", "set  1", "set a x", "set a 01", "set a 00", "set a 041", "set a 1000", "set a 0001", "set a 99999999999999999999",
		"set a -1", "set a +1", "set a 1 ", "set a  1", "set a 1 1", "set a b 1", "set a 1x", "set a x1", "set a 4:", "set a 4/", "set a 0x1", "set a 1_0",
		"set A 1", "set A 41", "set abcdefghi 41", "set a 41 ", " set a 41", "SET a 1", "set a 40 x",
		"del", "del ", "del a b", "del a ", "del  a", "del abcdefghi", "del A", "delete a", "DEL a",
		"*1", "$3", "\x01", strings.Repeat("x", 59), strings.Repeat("x", 60), "get " + strings.Repeat("a", 56), strings.Repeat(" ", 60),
	}
}

// head writes a frame's seven bytes.
func head(first, kind, key, value, id int) string {
	return string([]byte{byte(first), byte(kind), byte(key), byte(value), byte(value >> 8), byte(id), byte(id >> 8)})
}

func frameItems() []item {
	all := bytesUpTo(api.MaxValue)
	return []item{
		whole(head(1, 1, 1, 0, 0)+"a", get("a")), whole(head(1, 1, 2, 0, 258)+"ab", as(258, get("ab"))),
		whole(head(1, 1, 8, 0, 255)+"abcdefgh", as(255, get("abcdefgh"))), whole(head(1, 1, 8, 0, 256)+"01234567", as(256, get("01234567"))),
		whole(head(1, 2, 1, 0, 1)+"a", as(1, set("a", ""))), whole(head(1, 2, 1, 1, 65535)+"a\n", as(65535, set("a", "\n"))),
		whole(head(1, 2, 8, 40, 32768)+"zzzzzzz9"+all, as(32768, set("zzzzzzz9", all))), whole(head(1, 2, 2, 7, 10)+"k1"+head(1, 1, 1, 0, 0), as(10, set("k1", head(1, 1, 1, 0, 0)))),
		whole(head(1, 2, 1, 39, 2)+"0"+all[1:], as(2, set("0", all[1:]))),
		whole(head(1, 3, 1, 0, 2570)+"a", as(2570, del("a"))), whole(head(1, 3, 8, 0, 65534)+"abcdefgh", as(65534, del("abcdefgh"))),
	}
}

// fatalFrames has what ends a reader of frames; what stands behind is not read.
func fatalFrames() []item {
	var items []item
	for _, h := range []string{
		head(0, 1, 1, 0, 0), head(2, 1, 1, 0, 0), head(255, 1, 1, 0, 0), head(10, 1, 1, 0, 0),
		head(1, 0, 1, 0, 0), head(1, 4, 1, 0, 0), head(1, 5, 1, 0, 0), head(1, 255, 1, 0, 0),
		head(1, 1, 0, 0, 0), head(1, 1, 9, 0, 0), head(1, 1, 255, 0, 0), head(1, 2, 0, 1, 0), head(1, 3, 9, 0, 0),
		head(1, 2, 1, 41, 0), head(1, 2, 1, 255, 0), head(1, 2, 1, 256, 0), head(1, 2, 1, 256+40, 0), head(1, 2, 1, 65535, 0),
		head(1, 1, 1, 1, 7), head(1, 1, 1, 256, 7), head(1, 3, 1, 1, 7), head(1, 3, 1, 40, 7), head(1, 3, 1, 256, 7),
	} {
		items = append(items, item{h + "aa", 7, fatal(api.Form)})
	}
	for _, f := range []string{
		head(1, 1, 1, 0, 9) + "A", head(1, 1, 1, 0, 9) + "\x00", head(1, 1, 8, 0, 9) + "abcdefg ", head(1, 1, 8, 0, 9) + "-bcdefgh", head(1, 3, 2, 0, 9) + "a\n",
		head(1, 2, 1, 1, 9) + "Aa", head(1, 2, 2, 40, 9) + "a{" + bytesUpTo(40), head(1, 2, 1, 0, 9) + "`",
	} {
		items = append(items, item{f + head(1, 1, 1, 0, 0) + "a", len(f), fatal(api.Form)})
	}
	return items
}

// list writes texts as a list.
func list(texts ...string) string {
	out := "*" + decimal(len(texts)) + "\n"
	for _, t := range texts {
		out += "$" + decimal(len(t)) + "\n" + t + "\n"
	}
	return out
}

func decimal(n int) string {
	if n < 10 {
		return string(rune('0' + n))
	}
	return decimal(n/10) + decimal(n%10)
}

func listItems() []item {
	all := bytesUpTo(api.MaxValue)
	items := []item{
		whole(list("get", "a"), get("a")), whole(list("get", "a", "a"), get("a", "a")), whole(list("get", "a", "b", "c"), get("a", "b", "c")),
		whole(list("get", "abcdefgh", "01234567", "z9", "0"), get("abcdefgh", "01234567", "z9", "0")),
		whole(list("get", "get", "set", "del"), get("get", "set", "del")),
		whole(list("set", "a", ""), set("a", "")), whole(list("set", "a", "\n\n"), set("a", "\n\n")), whole(list("set", "abcdefgh", all), set("abcdefgh", all)),
		whole(list("set", "a", all[1:]), set("a", all[1:])), whole(list("set", "a", "123456789"), set("a", "123456789")), whole(list("set", "a", "1234567890"), set("a", "1234567890")),
		whole(list("set", "a", list("get", "b")), set("a", list("get", "b"))), whole(list("set", "k", "A"), set("k", "A")),
		whole(list("del", "a"), del("a")), whole(list("del", "12345678"), del("12345678")),
	}
	for _, texts := range [][]string{
		{""}, {"get"}, {"set"}, {"del"}, {"a"}, {all}, {"GET", "a"}, {"gets", "a"}, {"", "a"}, {"ge", "a"}, {"get a"},
		{"get", ""}, {"get", "A"}, {"get", "abcdefghi"}, {"get", "a", "b c"}, {"get", "a", "b", "c", ""}, {"get", "a", "b", "c", "\n"}, {"get", all},
		{"set", "a"}, {"set", "", ""}, {"set", "A", ""}, {"set", "abcdefghi", ""}, {"set", "a", "b", "c"}, {"set", "a", "b", "c", "d"},
		{"del", ""}, {"del", "A"}, {"del", "a", "b"}, {"del", "a", ""}, {"del", "a", "b", "c", "d"}, {"x", "a", "b", "c", "d"},
	} {
		items = append(items, whole(list(texts...), wrong(api.Data)))
	}
	return items
}

// fatalLists has what ends a reader of lists at its last byte.
func fatalLists() []item {
	var items []item
	for _, s := range []string{
		"x", "\n", "$", "1", "\x00", " ", "*0", "*6", "*9", "*-", "*+", "*\n", "* ", "*x", "*/", "*:", "*$", "*10", "*11", "*55", "*1 ", "*1\r", "*1$",
		"*1\n\n", "*1\n*", "*1\n3", "*1\n ", "*1\n$\n", "*1\n$-", "*1\n$ ", "*1\n$x", "*1\n$00", "*1\n$01", "*1\n$05", "*1\n$0x", "*1\n$41", "*1\n$49", "*1\n$50", "*1\n$90", "*1\n$100", "*1\n$400", "*1\n$3\r", "*1\n$3 ", "*1\n$30x",
		"*1\n$0\nx", "*1\n$3\ngetx", "*1\n$3\nget\r", "*1\n$3\n\n\n\nx", "*2\n$3\nget\n\n", "*2\n$3\nget\n*", "*2\n$3\nget\n$41", "*2\n$3\nget\n$1\nab", "*3\n$3\nset\n$1\na\n$2\nxyz",
		"*1\n$40\n" + bytesUpTo(40) + "x", "*5\n$0\n\n$0\n\n$0\n\n$0\n\n$0\nx",
	} {
		items = append(items, item{s + list("get", "a"), len(s), fatal(api.Form)})
	}
	return items
}
