"""Points 2 and 8 to 11: nets as texts."""

import unittest

from interline.errors import TextError
from interline.words import read_net, write_net
from tests.samples import NET, VALUES, Case, random_net

SMALL = "(station A 0 30) (station B 0 30) (type T 9 20) (classes Y)"
FULL = SMALL + "(flight F A B 0 60 T 100 (limits 9)) (tail N T F) (fare X A B Y 70 0 10 50)"


class ReadNetTest(Case):

    def fails(self, text, at):
        self.refused(TextError, (at,), read_net, text)

    def fails_at(self, text, mark):
        """The text is refused at the first place of a mark, which is left out."""
        self.fails(text.replace(mark, ""), text.index(mark))

    def test_examples(self):
        self.assertEqual(read_net("(station A 0 30) (classes Y)"), ((("A", 0, 30),), (), ("Y",), (), (), ()))
        self.fails("(station A 0 30) (flight", 18)

    def test_each_form(self):
        self.assertEqual(read_net(FULL), (
            (("A", 0, 30), ("B", 0, 30)),
            (("T", 9, 20),),
            ("Y",),
            (("F", "A", "B", 0, 60, "T", 100, (9,)),),
            (("N", "T", ("F",)),),
            (("X", "A", "B", "Y", 70, 0, 10, 50),)))

    def test_forms_with_any_number_of_words(self):
        self.assertEqual(read_net("(classes)"), ((), (), (), (), (), ()))
        text = "(classes C Y Z)(flight F A B 0 60 T 100 (limits))(flight G A B 1 2 T 3 (limits 9 8 -7))(tail N T)"
        self.assertEqual(read_net(text + "(tail M T F G F)"), (
            (), (), ("C", "Y", "Z"),
            (("F", "A", "B", 0, 60, "T", 100, ()), ("G", "A", "B", 1, 2, "T", 3, (9, 8, -7))),
            (("N", "T", ()), ("M", "T", ("F", "G", "F"))), ()))

    def test_spaces_and_line_feeds(self):
        net = ((("A", 0, 30),), (), ("Y",), (), (), ())
        for text in ("(station A 0 30)(classes Y)", "\n (  station\nA\n\n 0 30\n)\n( classes Y )  \n",
                     "(station A 0 30)\n(classes Y)\n", " (station A 0 30 )(classes Y)"):
            self.assertEqual(read_net(text), net)

    def test_words_of_forms_are_names_too(self):
        text = "(station station 0 1)(type classes 1 1)(classes limits)(tail tail flight fare)"
        self.assertEqual(read_net(text), (
            (("station", 0, 1),), (("classes", 1, 1),), ("limits",), (), (("tail", "flight", ("fare",)),), ()))

    def test_names(self):
        for name in ("a", "Z", "a_9", "A__", "x" * 13, "Q" * 500):
            self.assertEqual(read_net(f"(classes {name})")[2], (name,))
        for word in ("_a", "9a", "a-b", "-a", "a-", "-", "_", "--1", "1_0", "1-"):
            self.fails(f"(classes {word})", 9)

    def test_numerals(self):
        for word, number in (("0", 0), ("7", 7), ("10", 10), ("999999999", 999999999), ("-1", -1),
                             ("-999999999", -999999999)):
            self.assertEqual(read_net(f"(station A {word} 30) (classes)")[0], (("A", number, 30),))
        for word in ("00", "01", "-0", "-01", "-00", "1000000000", "-1000000000", "0000000001", "1.", "+1"):
            self.fails(f"(station A {word} 30) (classes)", 11 + (word == "1."))

    def test_characters_of_no_token(self):
        for sign in "\t\r.,;%[]{}'\"\\/+*=<>!?@#$&|^~`\x00\x0b\x0c\u00e9\u0661\u00a0\u2028\ud800":
            self.fails(f"(classes Y{sign})", 10)
            self.fails(f"{sign}(classes Y)", 0)
            self.fails(f"(classes Y)\n{sign}", 12)

    def test_tokens_go_ahead_of_forms(self):
        self.fails_at("flight ) ( ( classes @!", "@")
        self.fails_at("flight ) ( ( classes @01", "@")
        self.fails_at(") ! 01".replace("!", "@!"), "@")
        self.fails(") 01 !", 2)
        self.fails("(classes Y) 00", 12)

    def test_too_early_an_end(self):
        for text in ("", " ", "\n\n", "(", "(station", "(station A", "(station A 0 30", "(station A 0 30) ",
                     "(station A 0 30)(classes Y", "(classes ", "(classes Y)(flight F A B 0 60 T 100",
                     "(classes Y)(flight F A B 0 60 T 100 (limits 9)", "(classes Y)(flight F A B 0 60 T 100 (",
                     "(classes Y)(tail N T F ", "(classes Y) ( \n", "(type T 9 20)"):
            self.fails(text, len(text))

    def test_every_beginning_that_ends_too_early(self):
        for end in range(len(FULL)):
            if FULL[:end].rstrip() not in (SMALL, FULL[:FULL.index("(tail")].rstrip(),
                                           FULL[:FULL.index("(fare")].rstrip()):
                # A word that is cut is a name or a numeral still, so the end may come too early or the word be wrong.
                with self.assertRaises(TextError) as caught:
                    read_net(FULL[:end])
                self.assertIn(caught.exception.at, (end, FULL[:end].rfind(" ") + 1, FULL[:end].rfind("(") + 1))

    def test_tokens_that_cannot_stand(self):
        for text in ("@station A 0 30)", "@)", "(@)", "(@(", "(@7", "(@Station A 0 0)(classes)", "(@limits 9)",
                     "(station @7 0 30)", "(station A @B 30)", "(station A 0 @B)", "(station A 0 30 @5)",
                     "(station A 0 @)", "(station @(A) 0 30)", "(type T @T 20)", "(type 9 20)".replace("9", "@9"),
                     "(type T 9 20) (@station A 0 30) (classes Y)", "(classes Y) (@classes Y)", "(classes @7)",
                     "(classes Y @(Z))", "(classes Y) @)", "(classes Y) @Y", "(classes Y) (@station A 0 30)",
                     "(classes Y) (@type T 9 20)", "(@flight F A B 0 60 T 100 (limits 9)) (classes Y)",
                     "(@tail N T) (classes Y)", "(@fare X A B Y 70 0 10 50) (classes Y)",
                     "(classes Y)(flight F A B 0 60 T 100@)", "(classes Y)(flight F A B 0 60 T 100 @9)",
                     "(classes Y)(flight F A B 0 60 T 100 (@limit 9))", "(classes Y)(flight F A B 0 60 T 100 (@9))",
                     "(classes Y)(flight F A B 0 60 T 100 (limits @A))",
                     "(classes Y)(flight F A B 0 60 T 100 (limits 9) @9)",
                     "(classes Y)(flight F A B 0 60 @7 100 (limits 9))",
                     "(classes Y)(flight F A B @A 60 T 100 (limits 9))",
                     "(classes Y)(flight F @0 60 T 100 (limits 9))",
                     "(classes Y)(tail N T F @7)", "(classes Y)(tail N@)", "(classes Y)(tail N @7)",
                     "(classes Y)(tail N T) (@flight F A B 0 60 T 100 (limits 9))",
                     "(classes Y)(fare X A B Y 70 0 10 50) (@tail N T)",
                     "(classes Y)(fare X A B Y 70 0 10 50) (@flight F A B 0 60 T 100 (limits 9))",
                     "(classes Y)(fare X A B Y 70 0 10@)", "(classes Y)(fare X A B @70 70 0 10 50)",
                     "(classes Y)(fare X A B Y 70 0 10 @Y)", "(classes Y)(fare X A B Y 70 0 10 50 @50)"):
            self.fails_at(text, "@")

    def test_length(self):
        text = "(classes Y)" + " " * (12000 - 11)
        self.assertEqual(read_net(text), ((), (), ("Y",), (), (), ()))
        self.fails(text + " ", 0)
        self.fails("!" * 12000, 0)
        self.fails(" " * 11999 + "!", 11999)
        self.fails(" " * 12000 + "!", 0)

    def test_no_strings(self):
        for value in (*VALUES, ["(classes Y)"], b"(classes Y)"):
            if not isinstance(value, str):
                self.fails(value, 0)


class WriteNetTest(Case):

    def test_text(self):
        self.assertEqual(write_net(NET), (
            "(station A 60 30)\n(station B 0 40)\n(station C -90 0)\n(station D 840 20)\n"
            "(type T 3 20)\n(type U 2 0)\n"
            "(classes C Y)\n"
            "(flight F A B 100 160 T 300 (limits 3 2))\n(flight G B C 200 300 T 100 (limits 2 2))\n"
            "(flight H A D 100 180 U 500 (limits 2 1))\n(flight I D C 200 290 U 400 (limits 3 3))\n"
            "(flight J C A 400 600 T 900 (limits 1 0))\n"
            "(tail N1 T F G J)\n(tail N2 U H I)\n"
            "(fare fl A B Y 50 0 10 50)\n(fare gl B C Y 40 0 0 100)\n"
            "(fare ac A C Y 90 1 20 0)\n(fare cc A C C 300 3 0 100)\n"))

    def test_least_text(self):
        self.assertEqual(write_net(((), (), ("Y",), (), (), ())), "(classes Y)\n")
        net = ((), (("T", 1, 0),), ("Y",), (), (("N", "T", ()),), ())
        self.assertEqual(write_net(net), "(type T 1 0)\n(classes Y)\n(tail N T)\n")

    def test_the_text_is_read_as_the_net(self):
        self.assertEqual(read_net(write_net(NET)), NET)
        for seed in range(30):
            net = random_net(seed, classes=1 + seed % 3)
            self.assertEqual(read_net(write_net(net)), net)

    def test_long_texts_are_written_too(self):
        fares = tuple((f"fare{place:08d}", "A" * 12, "B" * 12, "Y" * 12, 1000000, 3, 1000000, 100)
                      for place in range(300))
        stations = (("A" * 12, 0, 0), ("B" * 12, 0, 0))
        text = write_net((stations, (), ("Y" * 12,), (), (), fares))
        self.assertGreater(len(text), 12000)
        self.assertEqual(text.count("\n"), 303)

    def test_check_is_not_asked(self):
        self.assertEqual(write_net(((("9", 5000, -1),), (), (), (), (), ())), "(station 9 5000 -1)\n(classes)\n")


if __name__ == "__main__":
    unittest.main()
