import unittest

from mirrordoors.between import mirror_between
from mirrordoors.desk import answers
from mirrordoors.errors import BadLine, Known, NothingDone, NoWay
from mirrordoors.gallery import Gallery
from mirrordoors.looks import seen_in, way_shown
from mirrordoors.makers import within
from mirrordoors.rooms import how_many_rooms
from mirrordoors.rows import path
from mirrordoors.texts import recipe_text, ways_text
from tests import family, house
from tests.calls import check_calls
from tests.test_counts import great_whole
from tests.test_texts import near, recipe_told, ways_told

LONG = [house.made_row(seed, 200 - seed, 8) for seed in range(12)]
# One request of each kind, and more.
REQUESTS = [
    "hang ab", "take ab", "look ab", "tidy", "undo", "ways", "makers", "has aba", "chain ba", "seen b ab",
    "between a aba", "path ab c", "path - a", "path ab -", "path - -", "shown a", "shown (a in b)",
    "shown ((a in b) in (c in a))", "rooms 2", "rooms 8", "within -", "within a", "within a, b, c",
]


def way_told(text):
    good = text != "" and set(text) <= set(house.LETTERS) and not house.has_neighbours(text)
    return text if good else None


def row_told(text):
    return "" if text == "-" else way_told(text)


def many_told(text):
    return int(text) if text in list("2345678") else None


def request_told(line):
    """The pair (word, values) of a request, or None, as the table of the document tells it."""
    kinds = {"tidy": [], "undo": [], "ways": [], "makers": [], "hang": [way_told], "take": [way_told],
             "look": [way_told], "has": [way_told], "chain": [way_told], "seen": [way_told, way_told],
             "between": [way_told, way_told], "path": [row_told, row_told], "shown": [recipe_told],
             "rooms": [many_told], "within": [ways_told]}
    if line in kinds:
        return (line, []) if kinds[line] == [] else None
    word, _, rest = line.partition(" ")
    if not kinds.get(word):
        return None
    parts = [rest] if word in ("shown", "within") else rest.split(" ")
    if len(parts) != len(kinds[word]):
        return None
    values = [told(part) for told, part in zip(kinds[word], parts)]
    return None if None in values else (word, values)


class Desk:
    """A Gallery and the functions that the table names."""

    def __init__(self):
        self.gallery = Gallery()

    def deed(self, word, values):
        try:
            getattr(self.gallery, word)(*values)
        except (Known, NoWay, NothingDone) as error:
            return "refused " + type(error).__name__
        return "done"

    def rooms(self, many):
        if not set("".join(self.gallery.ways)) <= set(house.LETTERS[:many]):
            return "refused Unfit"
        rooms = how_many_rooms(self.gallery.ways, many)
        return "endless" if rooms is None else f"{rooms}"

    def answer(self, line):
        word, values = request_told(line)
        gallery = self.gallery
        if word in ("hang", "take", "look", "tidy", "undo"):
            return self.deed(word, values)
        if word == "chain":
            chain = gallery.chain(*values)
            return "none" if chain is None else " ".join(chain)
        found = {
            "ways": lambda: ways_text(gallery.ways),
            "makers": lambda: ways_text(gallery.makers),
            "has": lambda way: "yes" if way in gallery else "no",
            "seen": seen_in,
            "between": mirror_between,
            "path": lambda one, other: path(one, other) or "-",
            "shown": way_shown,
            "rooms": self.rooms,
            "within": lambda ways: "yes" if within(gallery.ways, ways) else "no",
        }[word](*values)
        return "none" if found is None else found


def answered(lines):
    desk = Desk()
    return [desk.answer(line) for line in lines]


class AnswersTest(unittest.TestCase):
    def check(self, lines):
        text = "\n".join(lines)
        told = answers(text)
        self.assertEqual(told, answered(lines), text)
        self.assertIs(type(told), list)
        self.assertIsNot(answers(text), told)

    def test_by_names(self):
        check_calls(self, [(answers, {"text": "hang a\nways"}, ["done", "a"]), (answers, {"text": ""}, [])])

    def test_each_request(self):
        self.check(REQUESTS)
        for line in REQUESTS:
            for ahead in ([], ["hang a"], ["hang ab", "hang b"], ["hang a", "hang b", "hang c"],
                          ["hang h", "look ab"], ["hang a", "undo"], ["hang ab", "hang aba", "tidy"]):
                self.check(ahead + [line])
                self.check(ahead + [line, line, "ways", "undo", "makers"])

    def test_answers_that_are_known(self):
        self.assertEqual(answers("rooms 2\nhang a\nrooms 2\nhang b\nrooms 2\nrooms 3\nhang c\nrooms 2\nrooms 3"),
                         ["endless", "done", "endless", "done", "1", "endless", "done", "refused Unfit", "1"])
        self.assertEqual(answers("hang ab\nhang b\nrooms 2\nhang h\nrooms 7\nrooms 8\ntake h\nrooms 2"),
                         ["done", "done", "2", "done", "refused Unfit", "endless", "done", "2"])
        self.assertEqual(answers("within -\nhang a\nwithin -\nwithin a, b\nwithin ab, b\nhas a\nhas b"),
                         ["yes", "done", "no", "yes", "no", "yes", "no"])
        self.assertEqual(answers("chain a\nhang a\nchain a\nhang b\nchain aba\nchain c"),
                         ["none", "done", "a", "done", "a b a", "none"])
        self.assertEqual(answers("undo\ntake a\nhang a\nhang a\nundo\nundo\nways\nmakers"),
                         ["refused NothingDone", "refused NoWay", "done", "refused Known", "done",
                          "refused NothingDone", "-", "-"])
        self.assertEqual(answers("path a a\npath - -\npath - abc\npath abc -\nbetween a b\nbetween ab ab"),
                         ["-", "-", "abc", "cba", "none", "ab"])

    def test_rows_of_requests(self):
        ways = house.ways(3, 3)
        for seed in range(120):
            lines = []
            for k in range(60):
                pick = seed * 31 + k * k * 7 + k * 13
                way, other = ways[pick % len(ways)], ways[(pick // 3 + k) % len(ways)]
                word = ("hang", "take", "has", "chain", "look", "tidy", "undo", "ways", "makers", "seen",
                        "between", "path", "rooms", "within", "hang", "undo")[(pick // 5) % 16]
                if word == "look" and lines.count("look " + way) > 1:
                    word = "undo"
                rest = {"tidy": "", "undo": "", "ways": "", "makers": "", "rooms": f" {2 + pick % 7}",
                        "seen": f" {way} {other}", "between": f" {way} {other}",
                        "path": f" {way if pick % 5 else '-'} {other if pick % 3 else '-'}",
                        "within": " " + ways_text((way, other) if pick % 4 else ())}.get(word, " " + way)
                lines.append(word + rest)
            self.check(lines)

    def test_sixty_deeds(self):
        self.check([f"hang {way}" for way in LONG] + ["makers", "ways"] +
                   ["look " + way for way in "abcdefgh" * 2] + ["tidy"] * 2 + ["undo"] * 28)
        self.check(["tidy"] * 30 + ["undo"] * 30)

    def test_great_values(self):
        lines = [f"hang {way}" for way in LONG]
        lines += [f"seen {LONG[0]} {LONG[1]}", f"between {LONG[0]} {seen_in(LONG[0], 'hg' * 85)}",
                  f"path {LONG[2][:190]} {LONG[3][:190]}", f"has {LONG[5]}", f"chain {LONG[6]}", "rooms 8",
                  "within " + ", ".join(sorted(way[:30] for way in LONG))]
        self.check(lines)
        made = great_whole(3, 10, 2)
        self.assertEqual(len(made), 12)
        self.check([f"hang {way}" for way in made] + ["rooms 3", "rooms 4", "rooms 2"])
        self.check(["hang " + "ab" * 100, "hang " + "ba" * 100, "rooms 2"])
        self.assertEqual(answers("hang " + "ab" * 100 + "\nhang " + "ba" * 100 + "\nrooms 2")[-1], "399")

    def test_shown(self):
        for letters in range(1, 5):
            recipes = house.recipes(2, letters)
            for k in range(0, len(recipes), 50):
                here = recipes[k:k + 50]
                told = answers("\n".join("shown " + recipe_text(recipe) for recipe in here))
                self.assertEqual(told, [house.told_by_walking(recipe) for recipe in here])

    def test_makers_and_has(self):
        for ways in family.some_sets(3, 2, 3, 11):
            doors = family.doors(ways, 3)
            tried = house.ways(3, 2)
            told = answers("\n".join([f"hang {way}" for way in ways] + ["makers"] +
                                     [f"has {way}" for way in tried]))
            self.assertEqual(told, ["done"] * len(ways) + [ways_text(family.makers(ways))] +
                             ["yes" if way in doors else "no" for way in tried])


class LinesTest(unittest.TestCase):
    def check_bad(self, text, number):
        with self.assertRaises(BadLine, msg=repr(text)) as told:
            answers(text)
        self.assertEqual(vars(told.exception), {"number": number}, repr(text))

    def test_near_lines(self):
        """Lines near to requests: each is none, or answered as what it is."""
        for request in REQUESTS:
            for line in near(request):
                if "\n" in line:
                    continue
                if request_told(line) is None and line:
                    self.check_bad(line, 0)
                    self.check_bad("ways\n" + line, 1)
                    self.check_bad("hang a\nundo\n" + line + "\nhang a", 2)
                elif line:
                    self.assertEqual(answers("hang a\n" + line), answered(["hang a", line]))

    def test_bad_lines(self):
        for line in (
                "", " ", "-", "hang", "hang ", "hang  a", "hang a ", " hang a", "hang a b", "hang -", "hang aa",
                "hang i", "hang A", "Hang a", "HANG a", "hang a,", "hang\ta", "hang a\r", "take", "take -", "look",
                "look -", "look a b", "tidy a", "tidy ", " tidy", "undo 1", "undo ", "ways ", "ways a", "ways -",
                "makers ", "makers a", "has", "has -", "has ", "has a b", "chain", "chain -", "chain a b", "seen",
                "seen a", "seen a b c", "seen a -", "seen - a", "seen a  b", "seen a, b", "between a",
                "between a -", "between - a", "between a b c", "between", "path", "path a", "path a b c",
                "path a aa", "path aa a", "path --", "path - ", "path  -", "path a i", "path -a -", "shown",
                "shown ", "shown ab", "shown -", "shown (a)", "shown (a in b", "shown (a in  b)", "shown a in b",
                "shown (a in b) ", "shown  a", "rooms", "rooms ", "rooms 1", "rooms 9", "rooms 0", "rooms 02",
                "rooms -2", "rooms +2", "rooms 2 ", "rooms  2", "rooms 10", "rooms 22", "rooms two", "rooms a",
                "rooms 2 2", "rooms \u0662", "rooms 2.", "rooms 23", "within", "within ", "within b, a",
                "within a, a", "within a,b", "within a b", "within a, ", "within aa", "within  a", "within --",
                "within a, b ", "within -, a", "twin", "gallery", "len", "answers", "a", "hanga", "hang(a)",
                "deeds", "undo\tundo", "hang a\x0bhang b", "hang a\u2028", "ways\x00"):
            for ahead, behind in (([], []), (["hang a", "ways"], []), ([], ["ways"]), (["tidy"], ["hang b", "x"])):
                self.check_bad("\n".join(ahead + [line] + behind) or "\n", len(ahead))

    def test_empty_lines(self):
        self.assertEqual(answers(""), [])
        self.check_bad("\n", 0)
        self.check_bad("\n\n", 0)
        self.check_bad("ways\n", 1)
        self.check_bad("\nways", 0)
        self.check_bad("ways\n\nways", 1)
        self.check_bad("ways\nways\nways\n", 3)

    def test_first_bad_line(self):
        self.check_bad("ways\nbad\nworse\n", 1)
        self.check_bad("\n".join(["ways"] * 59 + ["bad"]), 59)
        # It decides ahead of all answers, also of those that are refused.
        self.check_bad("undo\ntake a\nhang a\nhang a\nrooms 2\nhang aa", 5)


if __name__ == "__main__":
    unittest.main()
