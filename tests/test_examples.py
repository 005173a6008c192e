import doctest
import unittest
from pathlib import Path

EXAMPLES = Path(__file__).with_name("examples.txt").read_text(encoding="utf-8")


class Examples(unittest.TestCase):
    def test_all_of_them_behind_one_another(self):
        test = doctest.DocTestParser().get_doctest(EXAMPLES, {}, "examples", "examples.txt", 0)
        self.assertEqual(len(test.examples), 69)
        told = []
        results = doctest.DocTestRunner(verbose=False).run(test, out=told.append)
        self.assertEqual((results.failed, "".join(told)), (0, ""))


if __name__ == "__main__":
    unittest.main()
