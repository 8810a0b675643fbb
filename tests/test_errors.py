import unittest

from lategone.errors import Clash, HeapError, NoAsk, NoThing

REFUSALS = (Clash, NoThing, NoAsk)


class Refusals(unittest.TestCase):
    def test_heap_error_stands_under_value_error(self):
        self.assertEqual(HeapError.__bases__, (ValueError,))

    def test_each_stands_under_heap_error_and_under_no_other_one(self):
        for refusal in REFUSALS:
            self.assertTrue(issubclass(refusal, HeapError))
            self.assertEqual([other for other in REFUSALS if issubclass(refusal, other)], [refusal])
            self.assertFalse(issubclass(HeapError, refusal))

    def test_each_is_made_of_a_text(self):
        for refusal in REFUSALS + (HeapError,):
            self.assertEqual(str(refusal("some words")), "some words")


if __name__ == "__main__":
    unittest.main()
