import itertools
import unittest

from samples import SAMPLE, SAMPLE_TEXT, block, nested, scroller, with_boxes

from asyncframes.boxes import is_document
from asyncframes.errors import FrameError, TextError
from asyncframes.texts import parse_document, print_document

WITH_BLOCK = scroller(1, 2, block(3, 4))


def row_text(many):
    """The text of a document with so many boxes, the root included."""
    return "s1:9[" + " ".join([f"b{number}:5" for number in range(2, many + 1)]) + "]"


def nested_text(many):
    """The text of so many scrollers within one another."""
    return "".join([f"s{number}:7[" for number in range(1, many + 1)]) + "]" * many


class Printing(unittest.TestCase):
    def test_sample(self):
        self.assertEqual(print_document(SAMPLE), SAMPLE_TEXT)

    def test_root_alone(self):
        self.assertEqual(print_document(scroller(7, 0)), "s7:0[]")
        self.assertEqual(print_document(scroller(999, 1000)), "s999:1000[]")

    def test_one_part_and_two(self):
        self.assertEqual(print_document(WITH_BLOCK), "s1:2[b3:4]")
        self.assertEqual(print_document(scroller(1, 2, block(3, 4), block(5, 6))), "s1:2[b3:4 b5:6]")

    def test_one_space_between_parts_of_every_kind(self):
        document = scroller(1, 2, scroller(3, 4), scroller(5, 6, block(7, 8)), block(9, 10), scroller(11, 12))
        self.assertEqual(print_document(document), "s1:2[s3:4[] s5:6[b7:8] b9:10 s11:12[]]")

    def test_within_one_another(self):
        self.assertEqual(print_document(nested(4, [block(5, 6)])), "s1:10[s2:10[s3:10[s4:10[b5:6]]]]")


class Parsing(unittest.TestCase):
    def assert_read(self, text, document):
        self.assertEqual(parse_document(text), document, text)

    def test_sample(self):
        self.assert_read(SAMPLE_TEXT, SAMPLE)

    def test_example_of_the_document(self):
        self.assert_read("s1:100[b2:80 b3:80 b4:80]", scroller(1, 100, block(2, 80), block(3, 80), block(4, 80)))

    def test_kinds_of_values(self):
        document = parse_document("s1:2[b3:4 s5:6[]]")
        self.assertIsInstance(document, tuple)
        self.assertIsInstance(document[3], tuple)
        self.assertIsInstance(document[3][1][3], tuple)
        self.assertEqual(document, ("scroller", 1, 2, (("block", 3, 4), ("scroller", 5, 6, ()))))

    def test_root_alone(self):
        self.assert_read("s1:0[]", scroller(1, 0))

    def test_printed_documents_are_read(self):
        for document in (SAMPLE, WITH_BLOCK, scroller(999, 1000), with_boxes(40), nested(4, [block(5), block(6)])):
            self.assert_read(print_document(document), document)
            self.assertTrue(is_document(document))

    def test_no_spaces_are_needed(self):
        self.assert_read("s1:2[b3:4b5:6s7:8[]b9:10]", scroller(1, 2, block(3, 4), block(5, 6), scroller(7, 8), block(9, 10)))

    def test_spaces_and_newlines_around_tokens(self):
        for blank in (" ", "\n", "   ", "\n\n", " \n \n  "):
            tokens = ["s", "1", ":", "2", "[", "b", "3", ":", "4", "]"]
            self.assert_read(blank.join([""] + tokens + [""]), WITH_BLOCK)
            for at in range(len(tokens) + 1):
                self.assert_read("".join(tokens[:at] + [blank] + tokens[at:]), WITH_BLOCK)

    def test_zeros_in_front(self):
        self.assert_read("s01:002[b0003:04]", WITH_BLOCK)
        self.assert_read("s000999:00001000[b1:000 s2:0[]]", scroller(999, 1000, block(1, 0), scroller(2, 0)))
        self.assert_read("s" + "0" * 1400 + "1:2[b3:4]", WITH_BLOCK)

    def test_limits(self):
        self.assert_read("s1:0[b999:1000]", scroller(1, 0, block(999, 1000)))
        self.assert_read("s999:1000[b1:0]", scroller(999, 1000, block(1, 0)))

    def test_equal_heights_and_numbers(self):
        self.assert_read("s1:1[b2:1 s3:1[b4:3]]", scroller(1, 1, block(2, 1), scroller(3, 1, block(4, 3))))

    def test_forty_boxes(self):
        document = scroller(1, 9, *[block(number, 5) for number in range(2, 41)])
        self.assert_read(row_text(40), document)

    def test_four_scrollers_within_one_another(self):
        self.assert_read(nested_text(4), scroller(1, 7, scroller(2, 7, scroller(3, 7, scroller(4, 7)))))

    def test_scrollers_beside_one_another_are_not_deep(self):
        text = "s1:1[s2:1[s3:1[s4:1[]] s5:1[s6:1[b7:1]]] s8:1[s9:1[]]]"
        self.assertEqual(print_document(parse_document(text)), text)


class Refused(unittest.TestCase):
    def assert_refused(self, text, message, place):
        with self.assertRaises(TextError) as caught:
            parse_document(text)
        error = caught.exception
        self.assertEqual((error.message, error.place), (message, place), text)
        self.assertEqual(str(error), f"{message} at {place}")
        self.assertIsInstance(error, FrameError)

    def test_unknown_character(self):
        self.assert_refused("?", "unknown character", 0)
        self.assert_refused("s1:2[b3:4],", "unknown character", 10)
        self.assert_refused("s1:2[b3:-4]", "unknown character", 8)
        self.assert_refused("s1:2[b3:4, b5:6]", "unknown character", 9)
        self.assert_refused("  \n x", "unknown character", 4)
        self.assert_refused("s1:2[a b3:4 a]", "unknown character", 5)

    def test_every_unknown_character(self):
        known = "bs:[]0123456789 "
        for code in range(ord(" "), ord("~") + 1):
            sign = chr(code)
            if sign not in known:
                self.assert_refused(f"s1:2[{sign}]", "unknown character", 5)
                self.assert_refused(f"{sign}s1:2[]", "unknown character", 0)
                self.assert_refused(f"s1:2[]{sign}", "unknown character", 6)

    def test_unexpected_token_after_each_beginning(self):
        # The tokens of a document, and which kinds may stand behind each of
        # its beginnings; every other kind is unexpected there. A "]" ends the
        # document, but for the one of the inner scroller, at 14.
        tokens = ["s", "1", ":", "2", "[", "b", "3", ":", "4", "s", "5", ":", "6", "[", "]", "]"]
        number, inside = ("7",), ("b", "s", "]")
        allowed = [
            ("s",), number, (":",), number, ("[",),
            inside, number, (":",), number,
            inside, number, (":",), number, ("[",), inside, inside, (),
        ]
        for at, good in enumerate(allowed):
            beginning = " ".join(tokens[:at] + [""])
            for word in ("b", "s", "7", ":", "[", "]"):
                if word not in good:
                    self.assert_refused(beginning + word, "unexpected token", len(beginning))
                    self.assert_refused(beginning + word + " ] ]", "unexpected token", len(beginning))
                elif word != "]" or at == 14:
                    self.assert_refused(beginning + word, "unexpected end", len(beginning) + 1)

    def test_unexpected_token_in_ordinary_texts(self):
        self.assert_refused("b1:2", "unexpected token", 0)
        self.assert_refused("  \nb1:2", "unexpected token", 3)
        self.assert_refused("bs1:2[]", "unexpected token", 0)
        self.assert_refused("s1[]", "unexpected token", 2)
        self.assert_refused("s1:2[b3]", "unexpected token", 7)
        self.assert_refused("s1:2[b3:4[]]", "unexpected token", 9)
        self.assert_refused("s1:2[5:6]", "unexpected token", 5)

    def test_a_number_is_one_token(self):
        self.assert_refused("s1 2:3[]", "unexpected token", 3)
        self.assert_refused("s1:2\n3[]", "unexpected token", 5)
        self.assert_refused("s1:2[b3:4 5]", "unexpected token", 10)

    def test_behind_the_end_of_the_document(self):
        self.assert_refused("s1:2[]]", "unexpected token", 6)
        self.assert_refused("s1:2[] ]", "unexpected token", 7)
        self.assert_refused("s1:2[]s3:4[]", "unexpected token", 6)
        self.assert_refused("s1:2[b3:4] b5:6", "unexpected token", 11)
        self.assert_refused("s1:2[] 7", "unexpected token", 7)

    def test_any_number_is_expected_where_a_number_is(self):
        self.assert_refused("s0:2000[b1:1 b1:1 :]", "unexpected token", 18)
        self.assert_refused("s0:2000[b1:1 b1:1", "unexpected end", 17)

    def test_empty(self):
        self.assert_refused("", "unexpected end", 0)
        self.assert_refused(" ", "unexpected end", 1)
        self.assert_refused("\n \n", "unexpected end", 3)

    def test_cut_off(self):
        for end in range(len(SAMPLE_TEXT)):
            self.assert_refused(SAMPLE_TEXT[:end], "unexpected end", end)
            self.assert_refused(SAMPLE_TEXT[:end] + " \n", "unexpected end", end + 2)

    def test_numbers_out_of_range(self):
        for number in ("0", "000", "1000", "01000", "1001", "9999", "99999", "100000", "9" * 1400):
            self.assert_refused(f"s{number}:2[b3:4]", "out of range", 1)
            self.assert_refused(f"s1:2[b{number}:4]", "out of range", 6)
            self.assert_refused(f"s1:2[b2:3 s{number}:4[]]", "out of range", 11)

    def test_heights_out_of_range(self):
        for height in ("1001", "01001", "1002", "9999", "10000", "100000", "9" * 1400):
            self.assert_refused(f"s1:{height}[b3:4]", "out of range", 3)
            self.assert_refused(f"s1:2[b3:{height}]", "out of range", 8)
            self.assert_refused(f"s1:2[b3:4 s5:{height}[]]", "out of range", 13)

    def test_longer_numbers_than_python_reads(self):
        self.assert_refused(f"s1:{'1' * 5000}[]", "out of range", 3)

    def test_first_number_out_of_range(self):
        self.assert_refused("s1:2[b3:1001 b0:4 b5:1001]", "out of range", 8)
        self.assert_refused("s1:1001[b0:4]", "out of range", 3)
        self.assert_refused("s0:1001[]", "out of range", 1)
        self.assert_refused("s1:2[s3:4[b1000:5] b0:6]", "out of range", 11)

    def test_number_twice(self):
        self.assert_refused("s1:2[b3:4 b3:5]", "number twice", 11)
        self.assert_refused("s1:2[b1:4]", "number twice", 6)
        self.assert_refused("s1:2[s1:2[]]", "number twice", 6)
        self.assert_refused("s1:2[s3:4[b5:6] b5:6]", "number twice", 17)
        self.assert_refused("s1:2[b3:4 s5:6[b3:7]]", "number twice", 16)

    def test_number_twice_with_zeros(self):
        self.assert_refused("s1:2[ b 3:4 b\n 003:5]", "number twice", 15)
        self.assert_refused("s01:2[b1:4]", "number twice", 7)

    def test_first_number_twice(self):
        self.assert_refused("s1:2[b3:4 b5:6 b5:7 b3:8 b1:9]", "number twice", 16)
        self.assert_refused("s1:2[b3:4 b3:4 b3:4]", "number twice", 11)

    def test_too_many_boxes(self):
        self.assert_refused(row_text(41), "too many boxes", 0)
        self.assert_refused(" \n  " + row_text(41), "too many boxes", 4)
        self.assert_refused(row_text(120), "too many boxes", 0)

    def test_too_many_boxes_in_several_scrollers(self):
        for many in (37, 38):
            blocks = " ".join([f"b{number}:0" for number in range(100, 100 + many)])
            text = f" s1:2[s2:3[{blocks}] s3:4[]]"
            if many == 37:
                self.assertEqual(print_document(parse_document(text)), text[1:])
            else:
                self.assert_refused(text, "too many boxes", 1)

    def test_too_deep(self):
        self.assert_refused(nested_text(5), "too deep", 0)
        self.assert_refused("\n" + nested_text(5), "too deep", 1)
        self.assert_refused("   " + nested_text(40), "too deep", 3)
        self.assert_refused("s1:1[b2:1 s3:1[s4:1[s5:1[s6:1[]] b7:1]] b8:1]", "too deep", 0)

    def test_very_deep(self):
        self.assert_refused("s1:0[" * 300, "unexpected end", 1500)
        self.assert_refused("s1:0[" * 250 + "]" * 250, "number twice", 6)
        self.assert_refused(nested_text(150), "too many boxes", 0)


class Order(unittest.TestCase):
    """Texts that have several errors: the first one of the list counts."""

    # Texts of parts, each with one error and the place of it in the text. An
    # unexpected end can only be made at the end of the whole text.
    UNKNOWN = ("unknown character", "b20:1 ? ", 6)
    TOKEN = ("unexpected token", "b30:1 : ", 6)
    RANGE = ("out of range", "b40:1001 ", 4)
    TWICE = ("number twice", "b51:1 b051:1 ", 7)
    MANY = ("too many boxes", "".join([f"b{number}:1 " for number in range(700, 740)]), None)
    DEEP = ("too deep", "s60:1[s61:1[s62:1[s63:1[]]]] ", None)

    def first_error(self, text):
        with self.assertRaises(TextError) as caught:
            parse_document(text)
        return caught.exception.message, caught.exception.place

    def test_two_at_once(self):
        begin = " s1:100["
        parts = (self.UNKNOWN, self.TOKEN, self.RANGE, self.TWICE, self.MANY, self.DEEP)
        for first, second in itertools.combinations(parts, 2):
            message, text, place = first
            before = begin + text + second[1] + "]"
            behind = begin + second[1] + text + "]"
            expected = 1 if place is None else len(begin) + place
            self.assertEqual(self.first_error(before), (message, expected), before)
            expected = 1 if place is None else len(begin) + len(second[1]) + place
            self.assertEqual(self.first_error(behind), (message, expected), behind)

    def test_each_alone(self):
        for message, text, place in (self.UNKNOWN, self.TOKEN, self.RANGE, self.TWICE, self.MANY, self.DEEP):
            expected = 0 if place is None else len("s1:1[") + place
            self.assertEqual(self.first_error("s1:1[" + text + "]"), (message, expected))

    def test_unexpected_end_after_unknown_character_and_unexpected_token(self):
        for message, text, place in (self.UNKNOWN, self.TOKEN):
            self.assertEqual(self.first_error("s1:1[" + text), (message, 5 + place))
        self.assertEqual(self.first_error("?"), ("unknown character", 0))
        self.assertEqual(self.first_error("b"), ("unexpected token", 0))

    def test_unexpected_end_before_the_others(self):
        for _, text, _ in (self.RANGE, self.TWICE, self.MANY, self.DEEP):
            cut = " s1:1[" + text
            self.assertEqual(self.first_error(cut), ("unexpected end", len(cut)))
            self.assertEqual(self.first_error(cut + "b"), ("unexpected end", len(cut) + 1))

    def test_all_at_once(self):
        text = "s1:1[" + self.DEEP[1] + self.MANY[1] + self.TWICE[1] + self.RANGE[1] + self.TOKEN[1] + self.UNKNOWN[1]
        at = len("s1:1[" + self.DEEP[1] + self.MANY[1])
        self.assertEqual(self.first_error(text), ("unknown character", len(text) - 2))
        text = text.replace("?", "")
        self.assertEqual(self.first_error(text), ("unexpected token", text.index(": ")))
        text = text.replace(": ", "")
        self.assertEqual(self.first_error(text), ("unexpected end", len(text)))
        text = text + "]"
        self.assertEqual(self.first_error(text), ("out of range", text.index("1001")))
        text = text.replace("1001", "1000")
        self.assertEqual(self.first_error(text), ("number twice", at + 7))
        text = text.replace("b051", "b52")
        self.assertEqual(self.first_error(text), ("too many boxes", 0))
        text = text.replace(self.MANY[1], "")
        self.assertEqual(self.first_error(text), ("too deep", 0))
        text = text.replace("s63:1[]", "")
        self.assertEqual(print_document(parse_document(text)).count("b"), 5)


if __name__ == "__main__":
    unittest.main()
