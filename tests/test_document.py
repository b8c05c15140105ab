"""The examples of the document, where it is at hand."""

import doctest
import pathlib
import unittest

DOCUMENT = pathlib.Path(__file__).resolve().parent.parent.parent / "shared" / "DOC.md"


class TestDocument(unittest.TestCase):
    @unittest.skipUnless(DOCUMENT.is_file(), "the document is not at hand")
    def test_examples(self):
        failed, tried = doctest.testfile(str(DOCUMENT), module_relative=False)
        self.assertEqual(failed, 0)
        self.assertGreater(tried, 0)


if __name__ == "__main__":
    unittest.main()
