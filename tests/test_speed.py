"""That a thousand calls of each function at ordinary inputs take no longer than some seconds."""

import time
import unittest

from mirrordoors.desk import answers
from tests import (
    test_between, test_counts, test_desk, test_flat, test_great_rows, test_halls, test_hidden, test_looks,
    test_makers, test_rooms, test_rows, test_small, test_texts)

FILES = [test_rows, test_looks, test_halls, test_makers, test_rooms, test_counts, test_between, test_flat,
         test_small, test_great_rows, test_hidden, test_texts]


class SpeedTest(unittest.TestCase):
    def test_a_thousand_calls_of_each(self):
        for tested in FILES:
            start = time.perf_counter()
            for function, values, answer in tested.CallsTest.CALLS:
                for _ in range(1000):
                    told = function(**values)
                self.assertEqual(told, answer)
            self.assertLess(time.perf_counter() - start, 5, tested.__name__)

    def test_a_thousand_requests_of_each_kind(self):
        start = time.perf_counter()
        text = "\n".join(test_desk.REQUESTS)
        for _ in range(1000):
            told = answers(text)
        self.assertEqual(len(told), len(test_desk.REQUESTS))
        self.assertLess(time.perf_counter() - start, 5)


if __name__ == "__main__":
    unittest.main()
