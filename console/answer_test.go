package console_test

import (
	"strings"
	"testing"

	"annals/api"
	"annals/text"
)

// Promise 18.5: a refusal tells the number at the chain's end and the layers' faults from the outermost to the innermost.
func TestChains(t *testing.T) {
	c := newConsole(t, 150)
	expect(t, c, [][2]string{
		// a store's fault: without a file, with a record, with a file
		{"open 0 64", "error 3 store open - -1"},
		{"open 2 64", "ok 0"},
		{"append 3 end 5", "error 90 store append - 0"},
		{"append 2 end 5; 2 end 0", "error 32 store append - 1"},
		{"append" + strings.Repeat(" 2 end 5;", 16) + " 2 end 5", "error 92 store append - -1"},
		{"raise 0", "error 3 store raise - -1"},
		{"raise 1", "error 91 store raise - -1"},
		{"lookup 0", "error 1 store lookup - -1"},
		{"saga 0", "error 1 store lookup - -1"},
		{"saga -1", "error 1 store lookup - -1"},
		// numbers without a fault
		{"saga 5", "error 110"},
		{"append 2 end 5", "ok 1"},
		{"saga 5", "error 111"},
		{"replay 0", "error 1"},
		{"replay 17", "error 1"},
		{"replay 1", `ok 0 {"count":0,"sagas":[]}`},
		// a rewriting's, with the store's inside
		{"append 2 begin 6 name=pay count=1 data=\"" + strings.Repeat("x", 40) + "\"", "ok 2"},
		{"upgrade", "error 64 rewrite upgrade store replace - -1"},
		{"compact", "error 64 rewrite compact store replace - -1"},
		{"rotate", "error 64 store rotate - -1"},
		{"append 2 done 6 data=\"" + strings.Repeat("x", 60) + "\"", "error 64 store append - -1"},
		{"stat", "ok 2 2 3 0 2 2 1 65 101"},
		// an engine's
		{"run 3 64", "error 111 engine 5"},
		{"blank", "ok"},
		{"open 1 64", "ok 0"},
		{`append 1 begin 7 step=1 data="pay"`, "ok 1"},
		{"run 3 64", "error 156 engine 7"},
		{`run 3 64 "pay: hold!"`, "error 154 engine 7"},
		{`run 3 64 "pay"`, "error 150 engine 0"},
		{`run 0 64 "pay: hold~free"`, "error 3 engine 0 store open - -1"},
		{`run 3 64 "pay: hold~free"`, "ok 1"},
		{"start 7 pay", "error 160 engine 7"},
		{"start 0 pay", "error 32 engine 0"},
		{"start 8 buy", "error 156 engine 8"},
		{`start 8 pay "` + strings.Repeat("x", 16385) + `"`, "error 2 engine 8"},
		{`start 8 pay "` + strings.Repeat("x", 99) + `"`, "error 64 engine 8 store append - -1"},
		{"reply 7 done", "error 162 engine 7"},
		{`reply 7 done 0 "` + strings.Repeat("x", 16385) + `"`, "error 2 engine 7"},
		{"saga 8", "error 110"},
		// an archive's
		{"restore 3 64", "error 170 archive restore"},
		{"restore 3 1", "error 93 archive restore"},
	}...)
}

// Promise 18.5: three layers around one number; and a store's fault that knows its file.
func TestDeepChains(t *testing.T) {
	c := newConsole(t, 223)
	expect(t, c, [][2]string{
		{`run 3 64 "pay: hold~free"`, "ok 0"},
		{"start 1 pay", "ok"}, {"next", `ok 1 0 do 1 hold ""`}, {"reply 1 refused", "ok"}, {"next", "ok none"},
		{`start 2 pay "` + strings.Repeat("x", 40) + `"`, "ok"},
		{"free", "ok 18"},
		{"compact", "error 64 engine 0 rewrite compact store replace - -1"},
		{"next", "error 64 engine 2 store append - -1"},
		{"dead", "ok 4 1"},
	}...)
	c = newConsole(t, 400)
	expect(t, c, [][2]string{{"open 1 64", "ok 0"}, {"append 1 end 1", "ok 1"}, {"backup", "ok 37"}, {"blank", "ok"}, {"arm 5", "ok"}}...)
	expect(t, c, [][2]string{
		{"restore 1 64", "error 60 archive restore store open - -1"},
		{"restore 1 64", "error 60 archive restore"},
		{"crash 0", "ok 0"},
		{"restore 1 64", "ok 1"},
	}...)
}

// Promise 18.5: a store's fault that is about a file tells its name: here the new manifest of a store that has as many segments as may be.
func TestFileNames(t *testing.T) {
	c := newConsole(t, api.MaxQuota)
	expect(t, c, [2]string{"open 1 64", "ok 0"})
	for i := range 127 {
		expect(t, c, [2]string{"append 1 begin " + itoa(i+1) + ` step=1 data="a"`, "ok " + itoa(i+1)}, [2]string{"rotate", "ok " + itoa(i+2)})
	}
	expect(t, c, [][2]string{
		{`append 1 begin 128 step=1 data="a"`, "ok 128"},
		{"rotate", "error 82 store rotate MANIFEST -1"},
		{"raise 3", "error 82 store raise MANIFEST -1"},
		{"append 1 end 1; 1 end 2; 1 end 3; 1 end 4; 1 end 5", "error 82 store append MANIFEST -1"},
		{`run 3 64 "a: b~c"`, "error 82 engine 0 store raise MANIFEST -1"},
		{"stat", "error 182"},
		{"open 3 64", "ok 128"},
		{"upgrade", "ok 128 128 0 128 43 5229 3356"},
		{`run 3 64 "a: b~c"`, "ok 128"},
	}...)
}

// Promise 18.5 and the table: what each command tells when it is done.
func TestAnswers(t *testing.T) {
	expect(t, newConsole(t, quota), [][2]string{
		{"files", "ok"}, {"free", "ok 4096"}, {"open 1 64", "ok 0"}, {"files", "ok MANIFEST:15 s1:5"}, {"free", "ok 4076"},
		{"append", "ok 0"}, {`append 1 begin 5 step=2 data="pay"`, "ok 1"}, {`append 1 start 5; 1 done 5 data="\xff"`, "ok 3"},
		{"stat", "ok 1 1 2 0 1 3 3 48 48"}, {"sync", "ok"}, {"stat", "ok 1 1 2 0 1 3 0 48 48"}, {"sync", "ok"},
		{"segments", "ok 1:0:0"}, {"rotate", "ok 2"}, {"rotate", "ok 2"}, {"segments", "ok 1:70:3 2:0:0"},
		{`import "[]"`, "ok 3"}, {`import "[{\"kind\":\"start\",\"saga\":5,\"step\":1,\"v\":1}]"`, "ok 4"},
		{"records", `ok [{"data":"pay","kind":"begin","saga":5,"step":2,"v":1},{"kind":"start","saga":5,"v":1},{"data":{"raw":"ff"},"kind":"done","saga":5,"v":1},{"kind":"start","saga":5,"step":1,"v":1}]`},
		{"lookup 5", `ok [{"data":"pay","kind":"begin","saga":5,"step":2,"v":1},{"kind":"start","saga":5,"v":1},{"data":{"raw":"ff"},"kind":"done","saga":5,"v":1},{"kind":"start","saga":5,"step":1,"v":1}]`},
		{"lookup 9223372036854775807", "ok []"},
		{"append 1 end 6", "ok 5"},
		{"saga 5", `ok {"count":4,"sagas":[{"at":0,"begun":0,"count":2,"fail":"","fail_code":0,"fail_step":0,"flight":true,"id":5,"input":"","name":"pay","next":1,"outs":[{"raw":"ff"}],"phase":"running","pivot":0,"tries":1,"undos":[]}]}`},
		{"replay 3", `ok 4 {"count":4,"sagas":[{"at":0,"begun":0,"count":2,"fail":"","fail_code":0,"fail_step":0,"flight":true,"id":5,"input":"","name":"pay","next":1,"outs":[{"raw":"ff"}],"phase":"running","pivot":0,"tries":1,"undos":[]}]}`},
		{"dead", "ok 1 1"}, {"raise 1", "ok 2"}, {"raise 3", "ok 3"}, {"stat", "ok 3 3 4 0 3 5 0 5 127"},
		{"compact", "ok 5 4 1 3 2 127 92"}, {"dead", "ok 0 0"}, {"compact", "ok 4 4 0 2 2 92 92"}, {"upgrade", "ok 4 4 0 2 2 92 92"},
		{"stat", "ok 4 3 6 6 2 4 0 20 92"}, {"files", "ok MANIFEST:18 s4:72 s5:20"}, {"free", "ok 3986"},
		{"backup", "ok 89"}, {"close", "ok"}, {"arm 0", "ok"}, {"arm -1", "ok"}, {"open 1 64", "ok 4"},
		{"crash 0", "ok 3"}, {"crash 99 -1,-1 99,99 1,1", "ok 3"}, {"blank", "ok"}, {"crash 0 1,1", "ok 0"},
		{"restore 3 64", "ok 4"}, {"stat", "ok 2 3 4 6 2 4 0 20 92"},
		{`run 3 64 "buy: get!" "pay: hold~free, ship~back*"`, "error 150 engine 0"},
		{`run 3 64 "buy: get!" "pay: hold~free, ship*2~back"`, "ok 1"}, {"out", "ok"},
		{"start 6 buy", "error 161 engine 6"}, {`start 9 buy "\n"`, "ok"}, {"start 8 buy", "ok"},
		{"next", `ok 5 1 do 1 ship "\xff"`}, {"next", `ok 8 0 do 1 get ""`}, {"next", `ok 9 0 do 1 get "\n"`}, {"out", "ok 5 8 9"}, {"next", "ok none"},
		{`reply 5 again 7 "later"`, "ok"}, {"reply 9 lost", "ok"}, {"reply 8 done 1", "ok"}, {"out", "ok"},
		{"next", `ok 5 1 do 2 ship "\xff"`}, {"next", `ok 9 0 do 1 get "\n"`}, {"reply 9 lost -1 \"x\"", "ok"}, {"reply 5 again", "ok"},
		{"next", `ok 5 0 undo 1 free "\xff"`}, {"next", `ok 9 0 do 1 get "\n"`}, {"out", "ok 5 9"}, {"reply 5 refused", "ok"}, {"next", `ok 5 0 undo 2 free "\xff"`},
	}...)
}

// The table: the commands of texts.
func TestTexts(t *testing.T) {
	long := strings.Repeat("a", 48)
	expect(t, newConsole(t, 0), [][2]string{
		{`json " { \"b\" : [ 1.50e1 , null ], \"a\" : \"\\u0041\" } "`, `ok {"a":"A","b":[15,null]}`},
		{`json "\"\\ud83d\\ude00\""`, "ok \"\U0001f600\""}, {`json "\"\\n\""`, `ok "\n"`}, {`json "\"\x7f\""`, "ok \"\x7f\""},
		{`json ""`, "error 130 at 0"}, {`json "[1,]"`, "error 131 at 3"}, {`json "1.5"`, "error 132 at 0"}, {`json " 1e400"`, "error 133 at 1"},
		{`json "\"\xff\""`, "error 134 at 1"}, {`json "\"\\q\""`, "error 135 at 1"}, {`json "{\"a\":1,\"a\":2}"`, "error 137 at 7"},
		{"json " + text.Quote(strings.Repeat("[", 17)), "error 136 at 16"},
		{`state "{\"count\":0,\"sagas\":[]}"`, `ok {"count":0,"sagas":[]}`},
		{`state "{\"count\":0, \"sagas\":[]}"`, "error 138"}, {`state "{\"count\":-1,\"sagas\":[]}"`, "error 141"}, {`state "{\"count\":0}"`, "error 140"}, {`state "[1,]"`, "error 131"}, {`state ""`, "error 130"},
		{"state " + text.Quote(oneSaga("in")), "ok " + oneSaga("in")},
		{`plan "order: reserve*3~release, charge~refund, ship*2!, notify"`, `ok "order: reserve*3~release, charge~refund, ship*2!, notify"`},
		{`plan "é: ü!"`, `ok "é: ü!"`}, {`plan "a: b"`, "error 152 at 3"}, {`plan "a: b~b"`, "error 151 at 3"}, {`plan "a : b~c"`, "error 150 at 1"}, {`plan ""`, "error 150 at 0"}, {`plan "a: b*0~c"`, "error 34 at 3"}, {`plan "a: \xff"`, "error 21 at 3"},
		{`name "bücher-2"`, "ok"}, {`name ""`, "error 20 at 0"}, {`name "a\xff"`, "error 21 at 1"}, {`name "2b"`, "error 22 at 0"}, {`name "a b"`, "error 22 at 1"}, {`name "` + long + `"`, "ok"}, {`name "` + long + `a"`, "error 23 at 48"},
		{`clip 2 "é\xff中"`, `ok "é\xff"`}, {`clip 0 "a"`, `ok ""`}, {`clip -9223372036854775808 "a"`, `ok ""`}, {`clip 9223372036854775807 "\n\u{ad}"`, `ok "\n\u{ad}"`},
		{`crc "123456789"`, "ok 3421780262"}, {`crc ""`, "ok 0"}, {`crc "a"`, "ok 3904355907"}, {`crc "\xff"`, "ok 4278190080"},
		{`up 3 1 begin 5 step=2 data="pay"`, `ok [{"count":2,"kind":"begin","name":"pay","saga":5,"v":3}]`},
		{"up 2 1 start 5", `ok [{"kind":"start","saga":5,"try":1,"v":2}]`}, {"up 1 2 end 5", "error 41"}, {"up 4 2 end 5", "error 3"}, {"up 4 2 end 0", "error 32"}, {"up 3 9 end 1", "error 3"},
		{"down 1 3 begin 5 count=2 name=pay", `ok [{"data":"pay","kind":"begin","saga":5,"step":2,"v":1}]`},
		{`down 1 3 begin 5 count=2 name=pay data="x"`, "error 40"}, {"down 3 2 end 5", "error 41"}, {"down 0 2 end 5", "error 3"}, {`down 1 3 begin 5 count=2 name="2b"`, "error 35"}, {"down 1 1 end 5", `ok [{"kind":"end","saga":5,"v":1}]`},
	}...)
}

// oneSaga is a state's text.
func oneSaga(input string) string {
	return `{"count":1,"sagas":[{"at":5,"begun":5,"count":2,"fail":"","fail_code":0,"fail_step":0,"flight":false,"id":7,"input":"` + input + `","name":"buy","next":0,"outs":[],"phase":"running","pivot":1,"tries":0,"undos":[]}]}`
}

// Promise 18.7: a record's fields, each in any place among them, with what may stand there; what isn't named is zero.
func TestRecords(t *testing.T) {
	c := newConsole(t, quota)
	expect(t, c, [][2]string{
		{"up 3 3 begin 5 name=pay count=3 pivot=2 at=9 data=\"x\"", `ok [{"at":9,"count":3,"data":"x","kind":"begin","name":"pay","pivot":2,"saga":5,"v":3}]`},
		{"up 3 3 begin 5 data=\"x\" at=9 pivot=2 count=3 name=\"pay\"", `ok [{"at":9,"count":3,"data":"x","kind":"begin","name":"pay","pivot":2,"saga":5,"v":3}]`},
		{"up\t3 3\tstart 5 step = 1 try= 2 at =3", `ok [{"at":3,"kind":"start","saga":5,"step":1,"try":2,"v":3}]`},
		{"up 3 3 done 9223372036854775807 step=31", `ok [{"kind":"done","saga":9223372036854775807,"step":31,"v":3}]`},
		{`up 3 3 fail 5 code=-9223372036854775808 last=1 data="\x00\"\\"`, `ok [{"code":-9223372036854775808,"data":"\u0000\"\\","kind":"fail","last":1,"saga":5,"v":3}]`},
		{"up 3 3 undo 5 try=1000", `ok [{"kind":"undo","saga":5,"try":1000,"v":3}]`},
		{`up 3 3 undone 5 data=""`, `ok [{"kind":"undone","saga":5,"v":3}]`},
		{"up 3 3 end 5 code=2", `ok [{"code":2,"kind":"end","saga":5,"v":3}]`},
		{"up 3 3 begin 5 name=name count=1", `ok [{"count":1,"kind":"begin","name":"name","saga":5,"v":3}]`},
		{"up 3 3 begin 5 name=begin count=1", `ok [{"count":1,"kind":"begin","name":"begin","saga":5,"v":3}]`},
		// whether it is valid is not asked ahead of the call
		{"up 3 0 begin -7 step=-1 try=-1 at=-1 last=-1 code=-1 count=-1 pivot=-1 name=\"\" data=\"\"", "error 3"},
		{"up 3 3 end 5 count=1", "error 33"}, {"up 3 3 end 5 data=\"x\"", "error 33"}, {"up 3 3 end 5 name=x", "error 33"}, {"up 3 3 start 5", "error 34"}, {`up 3 3 begin 5 count=1 name="a b"`, "error 35"},
		{`up 3 3 done 5 data="` + strings.Repeat("x", api.MaxData+1) + `"`, "error 36"},
		{"up 3 3 end -5", "error 32"},
	}...)
	for _, field := range strings.Fields("step try at last code count pivot") {
		for _, value := range []string{"x", `"1"`, `""`, "", "=", "=1", "1 1", ",", "1,"} {
			expect(t, c, [2]string{"up 3 3 end 5 " + field + "=" + value, "error 181"})
		}
		expect(t, c, [2]string{"up 3 3 end 5 " + field + "=0 " + field + "=0", "error 181"}, [2]string{"up 3 3 end 5 " + field, "error 181"}, [2]string{"up 3 3 end 5 " + field + " 1", "error 181"}, [2]string{"up 3 3 end 5 =1", "error 181"})
	}
	for _, rest := range []string{
		"name=1", "name=", "name==x", "name=x y", "name=x name=x", `name=x name="x"`, "data=x", "data=1", "data=", `data="" data=""`, `data="" ""`,
		"size=1", "size=", "size= step=1", `size="x"`, "Step=1", "steps=1", "v=1", "kind=end", "saga=1", "é=1", `"step"=1`, "1=1", "step:1", "step~1", "step=1;", ", step=1",
	} {
		expect(t, c, [2]string{"up 3 3 end 5 " + rest, "error 181"}, [2]string{"append 3 end 5 " + rest, "error 181"})
	}
	for _, record := range []string{"", "3", "3 end", "end 3 5", "3 5 end", "3 ends 5", "3 End 5", `3 "end" 5`, "3 7 5", "end 5", "three end 5", `3 end "5"`, "3 end five", "3, end, 5", "3 undones 5", "3 starts 5", "3 step 5"} {
		expect(t, c, [2]string{"up 3 " + record, "error 181"})
		if record != "" {
			expect(t, c, [2]string{"append " + record, "error 181"}, [2]string{"append 3 end 5; " + record, "error 181"})
		}
	}
}

// Promise 18.7: no place is told of the refusals of import, and what the store refuses is told with its chain.
func TestImport(t *testing.T) {
	c := newConsole(t, quota)
	end := func(v string) string { return `{"kind":"end","saga":5,"v":` + v + `}` }
	expect(t, c, [][2]string{
		{`import "["`, "error 182"}, {"open 2 64", "ok 0"},
		{`import ""`, "error 130"}, {`import "[1,]"`, "error 131"}, {`import "[ ]"`, "error 138"}, {`import "{}"`, "error 140"}, {`import "[{}]"`, "error 140"}, {`import "[{\"kind\":\"ends\",\"saga\":5,\"v\":1}]"`, "error 141"},
		{`import "[{\"data\":{\"raw\":\"61\"},\"kind\":\"done\",\"saga\":5,\"v\":2}]"`, "error 142"}, {`import "[{\"kind\":\"end\",\"saga\":0,\"v\":2}]"`, "error 32"},
		{"import " + text.Quote("["+end("1")+","+end("3")+"]"), "error 90 store append - 1"},
		{"import " + text.Quote("["+strings.Repeat(end("2")+",", 16)+end("2")+"]"), "error 92 store append - -1"},
		{"stat", "ok 1 2 2 0 1 0 0 5 5"},
		{"import " + text.Quote("["+strings.Repeat(end("1")+",", 15)+end("2")+"]"), "ok 16"},
		{"lookup 5", "ok [" + strings.Repeat(end("2")+",", 15) + end("2") + "]"},
	}...)
}

// Behind 18.7: where export refuses what a store holds, the answer is its number alone.
func TestTooLongToTell(t *testing.T) {
	c := newConsole(t, api.MaxQuota)
	expect(t, c, [2]string{"open 3 65536", "ok 0"})
	data := text.Quote(strings.Repeat("\x01", 16000)) // each byte is told in JSON by six
	const sagas = api.MaxJSON/96000 + 1
	for i := range sagas {
		if got := c.Do("append 3 begin " + itoa(i+1) + " count=1 name=a data=" + data); got != "ok "+itoa(i+1) {
			t.Fatalf("append %d answers %q", i, got)
		}
	}
	expect(t, c, [2]string{"records", "error 2"}, [2]string{"replay 4", "error 2"}, [2]string{"dead", "ok 0 0"})
	for _, line := range []string{"lookup 1", "saga 1"} {
		if got := c.Do(line); !strings.HasPrefix(got, "ok ") || len(got) < 96000 {
			t.Errorf("%s answers %d bytes", line, len(got))
		}
	}
	if got := c.Do("stat"); !strings.HasPrefix(got, "ok ") || !strings.Contains(got, " "+itoa(sagas)+" ") {
		t.Errorf("stat answers %q", got)
	}
}
