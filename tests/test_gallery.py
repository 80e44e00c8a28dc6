import itertools
import unittest

from mirrordoors.errors import Known, NothingDone, NoWay
from mirrordoors.gallery import Gallery
from mirrordoors.makers import chain_to, makers
from tests import family, house

TWELVE = [
    tuple(house.made_row(k, 200 - k, 8) for k in range(12)),
    tuple(("ab" * 100)[:200 - 7 * k] for k in range(12)),
    ("a", "b") + tuple(("ab" * 100)[:199 - 3 * k] for k in range(10)),
]
NEAR = [(), ("a",), ("b", "a"), ("ab", "b", "ab"), ("abc", "ab", "a"), ("ca", "cab", "cb"), ("h", "a")]


class Kept:
    """What a Gallery is, as the document says it: sets, one behind another."""

    def __init__(self, ways):
        self.sets = [set(ways)]

    def now(self):
        return tuple(sorted(self.sets[-1]))

    def do(self, deed, way):
        """Does it and tells the name of the error that comes of it, or None."""
        here = self.sets[-1]
        if deed == "undo":
            if len(self.sets) == 1:
                return "NothingDone"
            self.sets.pop()
            return None
        if deed == "hang" and way in here:
            return "Known"
        if deed == "take" and way not in here:
            return "NoWay"
        self.sets.append({
            "hang": lambda: here | {way},
            "take": lambda: here - {way},
            "look": lambda: {house.seen_by_walking(one, way) for one in here},
            "tidy": lambda: set(makers(here)),
        }[deed]())
        return None


def do(gallery, deed, way):
    """Does it and tells the error that comes of it, or None; nothing else is returned."""
    try:
        told = getattr(gallery, deed)(*([] if deed in ("tidy", "undo") else [way]))
    except (Known, NoWay, NothingDone) as error:
        kept = {} if deed == "undo" else {"way": way}
        assert vars(error) == kept, vars(error)
        return type(error).__name__
    assert told is None
    return None


class SetTest(unittest.TestCase):
    def test_ways_and_makers(self):
        for ways in NEAR + TWELVE + family.some_sets(3, 3, 3, 61):
            for form in (ways, list(ways), ways[::-1], list(ways) * 2):
                kept = list(form)
                gallery = Gallery(form)
                self.assertEqual(gallery.ways, tuple(sorted(set(ways))))
                self.assertIs(type(gallery.ways), tuple)
                self.assertIs(type(gallery.makers), tuple)
                self.assertEqual(len(gallery), len(set(ways)))
                self.assertEqual(gallery.deeds, 0)
                self.assertEqual(list(form), kept)
            if max(map(len, ways), default=0) < 6:
                self.assertEqual(gallery.makers, family.makers(ways))

    def test_in_and_chain(self):
        for ways in NEAR + family.some_sets(3, 2, 3, 9):
            gallery = Gallery(ways)
            doors = family.doors(ways, 4)
            for way in house.ways(3, 3):
                self.assertIs(way in gallery, way in doors)
                self.assertIs(way not in gallery, way not in doors)
                self.assertEqual(gallery.chain(way), chain_to(ways, way))
                self.assertEqual(gallery.chain(way=way), chain_to(ways, way))
        for ways in TWELVE:
            gallery = Gallery(ways)
            self.assertEqual([way in gallery for way in ways], [True] * 12)
            for way in ways:
                self.assertEqual(gallery.chain(way), chain_to(ways, way))

    def test_empty(self):
        for gallery in (Gallery(), Gallery(()), Gallery([]), Gallery(ways=())):
            self.assertEqual((gallery.ways, gallery.makers, gallery.deeds, len(gallery)), ((), (), 0, 0))
            self.assertEqual(("a" in gallery, gallery.chain("a")), (False, None))
        self.assertEqual(Gallery(ways=["b", "a"]).ways, ("a", "b"))

    def test_no_setters(self):
        gallery = Gallery(("a",))
        for name in ("ways", "makers", "deeds"):
            with self.assertRaises(AttributeError):
                setattr(gallery, name, ())
        self.assertEqual(gallery.ways, ("a",))

    def test_no_iteration(self):
        for ways in NEAR:
            gallery = Gallery(ways)
            for goes in (iter, list, tuple, sorted, lambda thing: [way for way in thing]):
                with self.assertRaises(TypeError):
                    goes(gallery)

    def test_copies_what_it_is_given(self):
        ways = ["ab", "b"]
        gallery = Gallery(ways)
        ways.append("c")
        ways[0] = "h"
        self.assertEqual(gallery.ways, ("ab", "b"))
        gallery.hang("a")
        self.assertEqual(ways, ["h", "b", "c"])

    def test_equal(self):
        for one, other in itertools.product(NEAR, repeat=2):
            there = set(one) == set(other)
            self.assertIs(Gallery(one) == Gallery(other), there)
            self.assertIs(Gallery(one) != Gallery(other), not there)
        for thing in (("ab", "b"), ["ab", "b"], None, 0, "ab", {"ab", "b"}, Gallery, object()):
            self.assertIs(Gallery(("ab", "b")) == thing, False)
            self.assertIs(Gallery(("ab", "b")) != thing, True)
            self.assertIs(thing == Gallery(("ab", "b")), False)
        # The same family, other WAYs.
        self.assertIs(Gallery(("a", "b")) == Gallery(("a", "ab")), False)

    def test_equal_whatever_can_be_undone(self):
        one, other = Gallery(("a",)), Gallery(("a", "b"))
        other.take("b")
        self.assertIs(one == other, True)
        self.assertIs(one != other, False)
        other.undo()
        self.assertIs(one == other, False)


class DeedsTest(unittest.TestCase):
    def check(self, gallery, kept, deed, way):
        refused = do(gallery, deed, way)
        self.assertEqual(refused, kept.do(deed, way), (deed, way))
        self.assertEqual(gallery.ways, kept.now())
        self.assertEqual(gallery.deeds, len(kept.sets) - 1)
        self.assertEqual(len(gallery), len(kept.now()))

    def test_all_short_rows_of_deeds(self):
        deeds = [("hang", "a"), ("hang", "ab"), ("take", "a"), ("look", "a"), ("look", "b"), ("tidy", ""),
                 ("undo", "")]
        for ways in ((), ("a", "b"), ("ab", "aba", "b")):
            for row in itertools.product(deeds, repeat=4):
                gallery, kept = Gallery(ways), Kept(ways)
                for deed, way in row:
                    self.check(gallery, kept, deed, way)

    def test_long_rows_of_deeds(self):
        ways = house.ways(3, 3)
        for seed in range(25):
            gallery, kept = Gallery(ways[:seed % 5]), Kept(ways[:seed % 5])
            for k in range(80):
                pick = (seed * 37 + k * k * 11 + k * 5) % 97
                way = ways[(pick * 7 + k) % len(ways)]
                deed = ("hang", "hang", "take", "look", "tidy", "undo", "hang", "undo")[pick % 8]
                if deed == "take" and kept.now() and k % 2:
                    way = kept.now()[pick % len(kept.now())]
                if deed == "look" and max(map(len, kept.now()), default=0) > 6:
                    deed = "undo"
                self.check(gallery, kept, deed, way)
                if k % 10 == 0 and max(map(len, kept.now()), default=0) < 6:
                    self.assertEqual(gallery.makers, family.makers(kept.now()))

    def test_sixty_deeds_and_an_undo_of_each(self):
        for ways in TWELVE:
            gallery = Gallery(ways)
            seen = [gallery.ways]
            for k in range(60):
                deed = ("take", "hang", "look", "look", "tidy")[k % 5]
                way = gallery.ways[k % len(gallery)] if deed != "hang" else ways[k % 12][1:] or "h"
                if deed == "hang" and way in gallery.ways:
                    deed = "tidy"
                if deed == "look" and k % 10 == 3:
                    way = "h"
                self.assertIsNone(do(gallery, deed, way))
                seen.append(gallery.ways)
                self.assertEqual(gallery.deeds, k + 1)
            for k in range(60, 0, -1):
                self.assertEqual((gallery.deeds, gallery.ways), (k, seen[k]))
                self.assertIsNone(gallery.undo())
            self.assertEqual((gallery.deeds, gallery.ways), (0, seen[0]))
            self.assertEqual(do(gallery, "undo", ""), "NothingDone")

    def test_deeds_that_change_nothing(self):
        gallery = Gallery(("a", "b"))
        self.assertIsNone(gallery.tidy())
        self.assertEqual((gallery.ways, gallery.deeds), (("a", "b"), 1))
        gallery = Gallery()
        for deed in ("tidy", "look"):
            self.assertIsNone(do(gallery, deed, "ab"))
        self.assertEqual((gallery.ways, gallery.deeds), ((), 2))
        one = Gallery(("a",))
        one.look("a")
        self.assertEqual((one.ways, one.deeds), (("a",), 1))
        one.undo()
        self.assertEqual((one.ways, one.deeds), (("a",), 0))

    def test_refused_deeds_change_nothing(self):
        gallery = Gallery(("a", "ab"))
        gallery.look("c")
        for _ in range(3):
            self.assertEqual(do(gallery, "hang", "ca"), "Known")
            self.assertEqual(do(gallery, "take", "a"), "NoWay")
            # b is of the family, but does not hang there.
            self.assertEqual(do(gallery, "take", "cb"), "NoWay")
            self.assertEqual((gallery.ways, gallery.deeds), (("ca", "cab"), 1))
        gallery.undo()
        self.assertEqual(do(gallery, "undo", ""), "NothingDone")
        self.assertEqual((gallery.ways, gallery.deeds), (("a", "ab"), 0))

    def test_by_names(self):
        gallery = Gallery(ways=("a",))
        gallery.hang(way="ab")
        gallery.look(way="b")
        gallery.take(way="ba")
        self.assertEqual((gallery.ways, gallery.deeds), (("bab",), 3))

    def test_twin(self):
        gallery = Gallery(("ab", "b"))
        gallery.hang("c")
        twin = gallery.twin()
        self.assertIsInstance(twin, Gallery)
        self.assertIsNot(twin, gallery)
        self.assertEqual((twin == gallery, twin.ways, twin.deeds), (True, ("ab", "b", "c"), 0))
        self.assertEqual(do(twin, "undo", ""), "NothingDone")
        twin.take("c")
        twin.tidy()
        self.assertEqual((gallery.ways, gallery.deeds), (("ab", "b", "c"), 1))
        gallery.undo()
        gallery.look("a")
        self.assertEqual((twin.ways, twin.deeds), (("ab", "b"), 2))
        twin.undo()
        twin.undo()
        self.assertEqual(twin.ways, ("ab", "b", "c"))
        self.assertEqual(Gallery().twin(), Gallery())

    def test_a_thousand_of_each(self):
        gallery = Gallery(("a", "bc"))
        for _ in range(1000):
            gallery.hang("ab")
            gallery.take("ab")
            gallery.look("a")
            gallery.look("a")
            gallery.tidy()
            self.assertEqual(("bc" in gallery, len(gallery), gallery.makers), (True, 2, ("a", "bc")))
            self.assertEqual(gallery.chain("abc"), ("bc", "a"))
            self.assertEqual(gallery.twin(), gallery)
        self.assertEqual(gallery.deeds, 5000)
        for _ in range(5000):
            gallery.undo()
        self.assertEqual((gallery.ways, gallery.deeds), (("a", "bc"), 0))


if __name__ == "__main__":
    unittest.main()
