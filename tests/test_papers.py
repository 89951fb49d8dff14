"""Points 148 to 150: answers as texts."""

import random
import unittest

from interline.book import guard
from interline.errors import TextError, TooMany
from interline.papers import is_answer, read_answer, write_answer
from tests.samples import VALUES, Case, nested, random_bookings, random_net
from tests.test_courses import random_course
from tests.test_mending import PRICES

COURSE = (("cancel", "F"), ("late", "G", 20), ("smaller", "H", "T"))
KEPT = ("kept", (((), ()), (COURSE, (("F", "G"), None, ("H",))), (COURSE[1:2], (None,))))
KEPT_TEXT = ("(kept)\n(entry (course))\n(entry (course (cancel F) (late G 20) (smaller H T)) (way F G) (back) (way H))\n"
             "(entry (course (late G 20)) (back))\n")
BROKEN = ("broken", COURSE, ((), ((), ((),)), ()))
BROKEN_TEXT = "(broken)\n(course (cancel F) (late G 20) (smaller H T))\n(()(()(()))())\n"


class PapersTest(Case):

    def refuses(self, text, at):
        self.refused(TextError, (at,), read_answer, text)
        self.assertIs(is_answer(text), False)

    def test_examples(self):
        self.assertEqual(write_answer(("broken", (("cancel", "F"),), ((), ((),)))), "(broken)\n(course (cancel F))\n(()(()))\n")
        self.assertEqual(read_answer("(kept) (entry (course) (way F G) (back))"), ("kept", (((), (("F", "G"), None)),)))

    def test_writing(self):
        self.assertEqual(write_answer(KEPT), KEPT_TEXT)
        self.assertEqual(write_answer(BROKEN), BROKEN_TEXT)
        self.assertEqual(write_answer(("kept", ())), "(kept)\n")
        self.assertEqual(write_answer(("broken", (), ())), "(broken)\n(course)\n()\n")

    def test_back_and_forth(self):
        for told, text in ((KEPT, KEPT_TEXT), (BROKEN, BROKEN_TEXT), (("kept", ()), "(kept)\n"),
                           (("broken", (), ()), "(broken)\n(course)\n()\n"), (("broken", (), nested(99)), None)):
            self.assertEqual(read_answer(write_answer(told)), told)
            self.assertIs(is_answer(write_answer(told)), True)
            if text:
                self.assertEqual(read_answer(text), told)

    def test_answers_of_guard(self):
        seen = set()
        for seed in range(80):
            net = random_net(seed, tails=4, longest=5)
            bookings = random_bookings(seed, net, 5)
            threats = tuple(dict.fromkeys(random_course(seed, net) + random_course(seed + 900, net)))
            for bound in (0, 60, 250):
                try:
                    told = guard(net, bookings, threats, 2, PRICES, bound)
                except TooMany:
                    continue
                text = write_answer(told)
                self.assertEqual(read_answer(text), told)
                self.assertEqual(text.count("\n"), len(told[1]) + 1 if told[0] == "kept" else 3)
                for wrong in ("  ", "( ", " )", " \n", "\n "):
                    self.assertNotIn(wrong, text)
                seen.add((told[0], told[-1] == ()))
        self.assertEqual(len(seen), 3)

    def test_any_spacing(self):
        for told, text in ((KEPT, KEPT_TEXT), (BROKEN, BROKEN_TEXT)):
            for wide in (text.replace("\n", ""), text.replace("\n", " "), text.replace("(", " ( ").replace(")", "\n)\n"),
                         text.replace(" ", "   \n"), "\n \n" + text + "\n  "):
                self.assertEqual(read_answer(wide), told)
                self.assertIs(is_answer(wide), True)

    def test_answers_that_guard_never_gives(self):
        for text, told in (
                ("(kept)(entry(course(late F 0))(way F F)(way F))", ("kept", (((("late", "F", 0),), (("F", "F"), ("F",))),))),
                ("(kept)(entry(course(late F -999999999)))", ("kept", (((("late", "F", -999999999),), ()),))),
                ("(broken)(course(cancel F)(cancel F)(cancel F)(cancel F))()", ("broken", (("cancel", "F"),) * 4, ())),
                ("(kept)(entry(course(cancel cancel))(way way back)(back))",
                 ("kept", (((("cancel", "cancel"),), (("way", "back"), None)),))),
                ("(broken)(course(smaller " + "x" * 50 + " late))()", ("broken", (("smaller", "x" * 50, "late"),), ()))):
            self.assertEqual(read_answer(text), told)
            self.assertIs(is_answer(text), True)

    def test_depth_of_papers(self):
        head = "(broken)(course)"
        self.assertEqual(read_answer(head + "(" * 100 + ")" * 100), ("broken", (), nested(99)))
        self.refuses(head + "(" * 101 + ")" * 101, len(head) + 100)
        self.refuses(head + "(" * 200 + ")" * 200, len(head) + 100)
        self.refuses(head + "(" * 100, len(head) + 100)
        # The hundredth one may stand often, one behind the other.
        self.assertEqual(read_answer(head + "(" * 99 + "()()" + ")" * 99)[2], nested(98, ((), ())))
        self.refuses(head + "(" * 99 + "()(())" + ")" * 99, len(head) + 99 + 3)
        # Elsewhere nothing is nested so deep.
        self.refuses("(" * 101, 1)

    def test_tokens_that_cannot_stand(self):
        for text, at in (
                ("", 0), ("kept", 0), (")", 0), ("5", 0), ("()", 1), ("(kept", 5), ("(keep)", 1), ("(5)", 1), ("((kept))", 1),
                ("(kept kept)", 6), ("(kept ())", 6), ("(kept))", 6), ("(kept) entry", 7), ("(kept) (kept)", 8),
                ("(kept) (course)", 8), ("(kept) ()", 8), ("(kept) (entry)", 13), ("(kept) (entry course)", 14),
                ("(kept) (entry ()", 15), ("(kept) (entry (way F))", 15), ("(kept) (entry (course F))", 22),
                ("(kept) (entry (course (cancel)))", 29), ("(kept) (entry (course (cancel 5)))", 30),
                ("(kept) (entry (course (cancel F G)))", 32), ("(kept) (entry (course (late F)))", 29),
                ("(kept) (entry (course (late F G)))", 30), ("(kept) (entry (course (late F 5 5)))", 32),
                ("(kept) (entry (course (late 5 F)))", 28), ("(kept) (entry (course (smaller F)))", 32),
                ("(kept) (entry (course (smaller F 5)))", 33), ("(kept) (entry (course (swap F)))", 23),
                ("(kept) (entry (course (course)))", 23), ("(kept) (entry (course) (way))", 27),
                ("(kept) (entry (course) (way 5))", 28), ("(kept) (entry (course) (way F 5))", 30),
                ("(kept) (entry (course) (way F (G)))", 30), ("(kept) (entry (course) (back F))", 29),
                ("(kept) (entry (course) F)", 23), ("(kept) (entry (course) (course))", 24), ("(kept) (entry (course) ())", 24),
                ("(kept) (entry (course)) ()", 25), ("(broken)", 8), ("(broken) (entry (course))", 10), ("(broken) ()", 10),
                ("(broken) (course)", 17), ("(broken) (course) course", 18), ("(broken) (course) )", 18),
                ("(broken) (course) (F)", 19), ("(broken) (course) (5)", 19), ("(broken) (course) () ()", 21),
                ("(broken) (course) ())", 20), ("(broken) (course) () F", 21), ("(broken) (course) (()", 21),
                ("(broken) (course (late F 5) 7) ()", 28), ("(broken) (broken)", 10)):
            self.refuses(text, at)

    def test_texts_that_end_too_early(self):
        for text in (KEPT_TEXT, BROKEN_TEXT):
            ends = set()
            for many in range(len(text)):
                if text[max(0, many - 1):many + 1].isalnum():
                    # A cut within a word makes another word.
                    continue
                try:
                    read_answer(text[:many])
                except TextError as error:
                    self.assertEqual(error.at, many)
                else:
                    ends.add(text[:many].rstrip("\n").count("\n"))
            self.assertEqual(ends, {0, 1, 2, 3} if text == KEPT_TEXT else {2})

    def test_characters_and_words_first(self):
        # A character that belongs to no token, or a wrong word, goes ahead of a token that cannot stand.
        for text, at in (("(keep) %", 7), ("(keep) 05", 7), ("(keep) -", 7), ("(keep) _a", 7), ("(kept) \t", 7), ("(kept)\r\n", 6),
                         (") 1234567890", 2), (") 5a", 2), ("(kept) \u00e9", 7), (") [ a-b", 2), (") a-b [", 2)):
            self.refuses(text, at)

    def test_long_texts(self):
        entry = "(entry (course) (back))"
        text = "(kept)" + entry * 521
        self.assertEqual(len(text), 11989)
        self.assertEqual(read_answer(text + " " * 11), ("kept", (((), (None,)),) * 521))
        self.assertIs(is_answer(text + " " * 11), True)
        self.refuses(text + " " * 12, 0)
        self.refuses("%" * 12001, 0)
        self.refuses("%" * 12000, 0)
        self.refuses(" " * 12000, 12000)
        self.refuses(" " * 11999 + "%", 11999)

    def test_any_values(self):
        for value in (*VALUES, KEPT, BROKEN, [KEPT_TEXT], (KEPT_TEXT,), b"(kept)"):
            self.refuses(value, 0)
        for text in (KEPT_TEXT, BROKEN_TEXT):
            chance = random.Random(7)
            for _ in range(600):
                place = chance.randrange(len(text))
                wrong = text[:place] + chance.choice("() F5-_\n%") + text[place + chance.randint(0, 1):]
                try:
                    told = read_answer(wrong)
                except TextError:
                    self.assertIs(is_answer(wrong), False)
                else:
                    self.assertIs(is_answer(wrong), True)
                    self.assertEqual(read_answer(write_answer(told)), told)


if __name__ == "__main__":
    unittest.main()
