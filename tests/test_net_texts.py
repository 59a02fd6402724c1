"""A net's text, and reading it."""

import unittest

from netcourt.errors import CourtError, NoText
from netcourt.net_texts import read_net, show_net
from netcourt.nets import Net

GREAT = "9" * 60
PLACES = "place a; place b; place c"
LETTERS = "abcdefghijklmnopqrstuvwxyz"


def sample_net():
    net = Net()
    net.place("z")
    net.tie("t", "b", "a", 12, -3)
    net.tie("a", "a", "z", 1, 0)
    net.alter("t", 7, 105)
    return net


SAMPLE = "place z; place b; place a; tie t b a 7 105; tie a a z 1 0"


def full_net():
    net = Net()
    for letter in LETTERS[:20]:
        net.place(letter * 12)
    for number in range(40):
        letters = LETTERS[number % 20], LETTERS[(number + 7) % 20]
        name = LETTERS[number // 26] + LETTERS[number % 26] * 11
        net.tie(name, letters[0] * 12, letters[1] * 12, int(GREAT), -int(GREAT))
    return net


def nets():
    net = sample_net()
    lone = Net()
    lone.place("place")
    cut = sample_net()
    cut.cut("t")
    words = Net()
    words.tie("tie", "tie", "place", 10, -10)
    return [Net(), net, lone, cut, words, full_net()]


class TextCase(unittest.TestCase):
    def assert_no_text(self, text):
        with self.assertRaises(ValueError, msg=text) as taken:
            read_net(text)
        self.assertIs(type(taken.exception), NoText, text)
        self.assertIsInstance(taken.exception, CourtError)


class TestShow(TextCase):
    def test_the_empty_net(self):
        self.assertEqual(show_net(Net()), "")

    def test_places_then_ties(self):
        self.assertEqual(show_net(sample_net()), SAMPLE)

    def test_places_alone(self):
        net = Net()
        net.place("b")
        self.assertEqual(show_net(net), "place b")
        net.place("a")
        self.assertEqual(show_net(net), "place b; place a")

    def test_a_place_behind_a_tie_is_written_ahead(self):
        net = Net()
        net.tie("t", "a", "b", 1, -1)
        net.place("c")
        self.assertEqual(show_net(net), "place a; place b; place c; tie t a b 1 -1")

    def test_great_numbers(self):
        net = Net()
        net.tie("t", "a", "b", int(GREAT), -int(GREAT))
        self.assertEqual(show_net(net), f"place a; place b; tie t a b {GREAT} -{GREAT}")

    def test_showing_changes_nothing(self):
        net = sample_net()
        ahead = (net.places(), net.ties())
        self.assertEqual(show_net(net), show_net(net))
        self.assertEqual((net.places(), net.ties()), ahead)

    def test_the_text_follows_the_deeds(self):
        net = sample_net()
        net.cut("t")
        self.assertEqual(show_net(net), "place z; place b; place a; tie a a z 1 0")


class TestRead(TextCase):
    def test_the_empty_text(self):
        net = read_net("")
        self.assertIsInstance(net, Net)
        self.assertEqual((net.places(), net.ties()), ([], []))

    def test_a_text(self):
        net = read_net(SAMPLE)
        self.assertIsInstance(net, Net)
        self.assertEqual(net.places(), ["z", "b", "a"])
        self.assertEqual(net.ties(), [("t", "b", "a", 7, 105), ("a", "a", "z", 1, 0)])

    def test_there_and_back(self):
        for net in nets():
            text = show_net(net)
            again = read_net(text)
            self.assertEqual((again.places(), again.ties()), (net.places(), net.ties()))
            self.assertEqual(show_net(again), text)

    def test_the_numbers_are_whole(self):
        for row in read_net(SAMPLE).ties():
            self.assertIs(type(row), tuple)
            self.assertEqual([type(thing) for thing in row], [str, str, str, int, int])

    def test_what_was_told_may_be_longer_than_four_thousand_signs(self):
        text = show_net(full_net())
        self.assertGreater(len(text), 4000)
        self.assertEqual(show_net(read_net(text)), text)

    def test_each_goes_its_own_way(self):
        net = sample_net()
        again, third = read_net(show_net(net)), read_net(SAMPLE)
        again.place("x")
        again.cut("t")
        net.alter("a", 3, 3)
        self.assertEqual(net.places(), ["z", "b", "a"])
        self.assertEqual(net.ties(), [("t", "b", "a", 7, 105), ("a", "a", "z", 3, 3)])
        self.assertEqual(again.places(), ["z", "b", "a", "x"])
        self.assertEqual(again.ties(), [("a", "a", "z", 1, 0)])
        self.assertEqual(show_net(third), SAMPLE)

    def test_a_read_net_takes_deeds(self):
        net = read_net(SAMPLE)
        self.assertIsNone(net.tie("u", "z", "q", 1, 1))
        self.assertEqual(net.places(), ["z", "b", "a", "q"])

    def test_twenty_places_and_forty_ties(self):
        net = read_net(show_net(full_net()))
        self.assertEqual((len(net.places()), len(net.ties())), (20, 40))


class TestNumbers(TextCase):
    def test_numbers_that_are_taken(self):
        for cost in ("0", "1", "-1", "10", "-10", "100", GREAT, "-" + GREAT):
            row = read_net(f"{PLACES}; tie t a b 1 {cost}").ties()[0]
            self.assertEqual(row[4], int(cost))
        for width in ("1", "9", "10", GREAT):
            row = read_net(f"{PLACES}; tie t a b {width} 0").ties()[0]
            self.assertEqual(row[3], int(width))

    def test_numbers_that_are_none(self):
        for number in ("", "-", "+1", "01", "00", "007", "-0", "-01", "-00", "--1", "1.0", "1_0", "1e1", "x", "1x",
                       "\u0661", "1\n", "1;", "True", "1" + GREAT, "-1" + GREAT, "0" + GREAT, "9" * 5000):
            self.assert_no_text(f"{PLACES}; tie t a b 1 {number}")
            self.assert_no_text(f"{PLACES}; tie t a b {number} 0")

    def test_a_width_below_one(self):
        for width in ("0", "-1", "-" + GREAT):
            self.assert_no_text(f"{PLACES}; tie t a b {width} 0")


class TestTextsThatNoNetHas(TextCase):
    def test_blanks_and_partings(self):
        for text in (" ", ";", "; ", "; ; ", " place a", "place a ", "place  a", "place a;", "place a; ", "; place a",
                     "place a; ; place b", "place a;place b", "place a;  place b", "place a ; place b", "place a\n",
                     "place a;\nplace b", "place a, place b", "place\ta", "place a place b", "\nplace a"):
            self.assert_no_text(text)
        row = "tie t a b 1 0"
        for wrong in (row + " ", " " + row, row + ";", row + "; ", "; " + row, row.replace(" ", "  ", 1),
                      "tie t a  b 1 0", "tie t a b  1 0", "tie t a b 1  0", "tie t a b 10", "tie t ab 1 0"):
            self.assert_no_text(f"{PLACES}; {wrong}")
        self.assert_no_text(f"{PLACES};{row}")

    def test_the_number_of_words(self):
        for text in ("place", "place ", "place a b", "tie", "tie t", "tie t a b", "tie t a b 1", "tie t a b 1 0 0"):
            self.assert_no_text(text)
            self.assert_no_text(f"{PLACES}; {text}")

    def test_the_first_word(self):
        for word in ("", "Place", "PLACE", "plac", "places", "node", "tie"):
            self.assert_no_text(f"{word} d")
        for word in ("", "Tie", "ties", "knot", "place"):
            self.assert_no_text(f"{PLACES}; {word} t a b 1 0")

    def test_names_that_are_none(self):
        for word in ("", "A", "aB", "a1", "7", "a-b", "a_b", "a;", "\u00e4", "z" * 13, "a\n"):
            self.assert_no_text(f"place {word}")
            self.assert_no_text(f"{PLACES}; tie {word} a b 1 0")
            self.assert_no_text(f"{PLACES}; tie t {word} b 1 0")
            self.assert_no_text(f"{PLACES}; tie t a {word} 1 0")
        self.assertEqual(read_net("place " + "z" * 12).places(), ["z" * 12])

    def test_a_place_behind_a_tie(self):
        self.assert_no_text("place a; place b; tie t a b 1 0; place c")
        self.assert_no_text("tie t a b 1 0; place a; place b")
        self.assert_no_text("place a; tie t a b 1 0; place b")

    def test_told_twice(self):
        self.assert_no_text("place a; place a")
        self.assert_no_text("place a; place b; place a")
        self.assert_no_text(f"{PLACES}; tie t a b 1 0; tie t a b 1 0")
        self.assert_no_text(f"{PLACES}; tie t a b 1 0; tie u a b 1 0; tie t b c 2 2")

    def test_from_a_place_to_itself(self):
        self.assert_no_text(f"{PLACES}; tie t a a 1 0")

    def test_an_end_that_no_row_told(self):
        self.assert_no_text("tie t a b 1 0")
        self.assert_no_text("place a; tie t a b 1 0")
        self.assert_no_text("place b; tie t a b 1 0")
        self.assert_no_text(f"{PLACES}; tie t a b 1 0; tie u a d 1 0")

    def test_too_many(self):
        places = [f"place {letter}" for letter in LETTERS[:20]]
        self.assertEqual(len(read_net("; ".join(places)).places()), 20)
        self.assert_no_text("; ".join(places + ["place z"]))
        ties = [f"tie {LETTERS[number // 26]}{LETTERS[number % 26]} a b 1 0" for number in range(40)]
        self.assertEqual(len(read_net("; ".join(places + ties)).ties()), 40)
        self.assert_no_text("; ".join(places + ties + ["tie z a b 1 0"]))

    def test_a_refusal_leaves_nothing_behind(self):
        self.assert_no_text("place a; place b; place a")
        self.assertEqual(read_net("place a").places(), ["a"])


class TestTextsNearOne(TextCase):
    def look_at(self, text):
        try:
            net = read_net(text)
        except NoText:
            return False
        self.assertEqual(show_net(net), text)
        return True

    def test_what_is_read_is_that_nets_text(self):
        taken = 0
        for at in range(len(SAMPLE) + 1):
            taken += self.look_at(SAMPLE[:at])
            taken += self.look_at(SAMPLE[at:])
            taken += self.look_at(SAMPLE[:at] + SAMPLE[at + 1:])
            for sign in " ;-+0719abtzA\n":
                taken += self.look_at(SAMPLE[:at] + sign + SAMPLE[at:])
                taken += self.look_at(SAMPLE[:at] + sign + SAMPLE[at + 1:])
        self.assertGreater(taken, 20)

    def test_rows_in_another_order(self):
        rows = SAMPLE.split("; ")
        for one in range(len(rows)):
            for other in range(one + 1, len(rows)):
                swapped = list(rows)
                swapped[one], swapped[other] = rows[other], rows[one]
                self.assertEqual(self.look_at("; ".join(swapped)), other < 3 or one >= 3)


if __name__ == "__main__":
    unittest.main()
