"""A plan's text: tokens, blanks, the faults 1 to 3 and their places. check and rests read alike."""

import unittest

from helper import begin, check, promise, rests, run, stick

BENCH = [begin(1, 3), stick(7, 1, 0, 10), promise(21, 1, 4, 0, 10, 5)]
GOOD = "take 21 from 7 at 0;"


class TextTest(unittest.TestCase):
    def answer(self, text):
        told = run(*BENCH, check(text), rests(text))[len(BENCH):]
        if told[0][1] != 1:
            self.assertEqual(told[0], told[1])
        else:
            self.assertEqual(told[1][:2], [0, 1])
        return told[0]

    def assert_fault(self, text, kind, place):
        with self.subTest(text=text):
            self.assertEqual(self.answer(text), [0, 0, kind, place])

    def assert_good(self, text, lost=1):
        with self.subTest(text=text):
            self.assertEqual(self.answer(text), [0, 1, 1, lost])


class TokenTest(TextTest):
    def test_blanks_between_tokens(self):
        for text in (GOOD, " " + GOOD, "\n" + GOOD, GOOD + "\n", GOOD + " \n \n", GOOD.replace(" ", "\n"),
                     GOOD.replace(" ", " \n  "), "  take\n21\n\nfrom 7 at\n 0 \n;"):
            self.assert_good(text)

    def test_no_blank_between(self):
        self.assert_good("take21from7at0;")
        self.assert_good("take21 from7 at0;")
        self.assert_good("take 21from 7at 0 ;")
        self.assertEqual(self.answer("take21from7at0;take21from7at0;"), [0, 2, 3, 2])

    def test_words_and_numbers_go_on_as_far_as_they_can(self):
        self.assert_fault("taketake", 2, 0)
        self.assert_fault("taken 21 from 7 at 0;", 2, 0)
        self.assert_fault("tak 21 from 7 at 0;", 2, 0)
        self.assert_fault("ta ke 21 from 7 at 0;", 2, 0)
        self.assert_fault("take 21 fromat 7 at 0;", 2, 8)
        self.assert_fault("take 21 from 7 at 0 0;", 2, 20)
        self.assert_fault("take 2 1 from 7 at 0;", 2, 7)

    def test_each_byte(self):
        letters, digits = "abcdefghijklmnopqrstuvwxyz", "0123456789"
        for byte in range(256):
            sign = bytes([byte]).decode("latin-1")
            with self.subTest(byte=byte):
                if sign in (" ", "\n"):
                    self.assertEqual(self.answer([byte]), [0, 1, 0, 0])
                elif sign in letters or sign in digits or sign == ";":
                    self.assert_fault([byte], 2, 0)
                else:
                    self.assert_fault([byte], 1, 0)

    def test_each_byte_in_the_place_of_a_blank(self):
        for byte in range(256):
            text = list(GOOD.encode())
            text[4] = byte
            with self.subTest(byte=byte):
                if byte in (32, 10):
                    self.assertEqual(self.answer(text), [0, 1, 1, 1])
                elif 48 <= byte <= 57:
                    # The digit goes along with the number behind it: there's no such promise.
                    self.assertEqual(self.answer(text), [0, 1, 1, 1] if byte == 48 else [0, 2, 1, 1])
                elif 97 <= byte <= 122:
                    self.assert_fault(text, 2, 0)
                elif byte == 59:
                    self.assert_fault(text, 2, 4)
                else:
                    self.assert_fault(text, 1, 4)


class EmptyTest(TextTest):
    def test_text_without_takings(self):
        for text in ("", " ", "\n", " \n  \n"):
            with self.subTest(text=text):
                self.assertEqual(run(*BENCH, check(text), rests(text))[len(BENCH):], [[0, 1, 0, 0], [0, 1, 7, 0, 10]])


class FirstFaultTest(TextTest):
    def test_other_signs(self):
        for sign in "TAKE,.:-+_#\t\r\0\x7f\xe4\xff\x0b\x1f!/<@[`{":
            self.assert_fault(sign, 1, 0)
            self.assert_fault(GOOD + sign, 1, len(GOOD))
            self.assert_fault("take" + sign + "21 from 7 at 0;", 1, 4)

    def test_first_of_several(self):
        self.assert_fault("take 21 from 7 at -1; #", 1, 18)
        self.assert_fault("Take 21 FROM 7 at 0;", 1, 0)

    def test_goes_ahead_of_faults_before_it(self):
        self.assert_fault("; ; # ;", 1, 4)
        self.assert_fault("take take 21 from 7 at 0; #", 1, 26)
        self.assert_fault("take 1000000001 from 7 at 0; #", 1, 29)
        self.assert_fault("take 21 from #", 1, 13)

    def test_goes_ahead_of_what_is_wrong_with_takings(self):
        self.assert_fault("take 99 from 7 at 0; #", 1, 21)


class MisplacedTest(TextTest):
    def test_each_token_in_the_wrong_place(self):
        tokens = ["take", "21", "from", "7", "at", "0", ";"]
        for count in range(14):
            for other in ("take", "5", "from", "at", ";", "x", "1000000001"):
                expected = tokens[count % 7]
                if other == expected or (other.isdigit() and expected.isdigit()):
                    continue
                text = " ".join((tokens + tokens)[:count] + [other])
                self.assert_fault(text, 2, len(text) - len(other))
                self.assert_fault(text + " take from 1000000001", 2, len(text) - len(other))

    def test_ends_too_early(self):
        tokens = ["take", "21", "from", "7", "at", "0", ";"]
        for count in list(range(1, 7)) + list(range(8, 14)):
            text = " ".join((tokens + tokens)[:count])
            self.assert_fault(text, 2, len(text))
            self.assert_fault(text + " \n ", 2, len(text) + 3)

    def test_sign_stands_once(self):
        self.assert_fault(GOOD + ";", 2, len(GOOD))
        self.assert_fault(";", 2, 0)
        self.assert_fault(" \n;", 2, 2)


class NumberTest(TextTest):
    def test_the_greatest(self):
        self.assertEqual(self.answer("take 1000000000 from 7 at 0;"), [0, 2, 1, 1])
        self.assertEqual(self.answer("take 21 from 1000000000 at 0;"), [0, 2, 2, 1])
        self.assertEqual(self.answer("take 21 from 7 at 1000000000;"), [0, 2, 4, 1])
        self.assertEqual(run(begin(1, 0), stick(1000000000, 1, 0, 4), promise(1000000000, 1, 4, 0, 4),
                             check("take 1000000000 from 1000000000 at 0;"))[-1], [0, 1, 1, 0])

    def test_one_more(self):
        self.assert_fault("take 1000000001 from 7 at 0;", 3, 5)
        self.assert_fault("take 21 from 1000000001 at 0;", 3, 13)
        self.assert_fault("take 21 from 7 at 1000000001;", 3, 18)
        self.assert_fault("take 21 from 7 at 9" + "0" * 500 + ";", 3, 18)

    def test_zero(self):
        self.assertEqual(self.answer("take 0 from 7 at 0;"), [0, 2, 1, 1])
        self.assertEqual(self.answer("take 21 from 0 at 0;"), [0, 2, 2, 1])

    def test_zeros_in_front(self):
        self.assert_good("take 0021 from 07 at 000;")
        self.assert_good("take " + "0" * 500 + "21 from 7 at 0;")
        self.assertEqual(self.answer("take 0001000000000 from 7 at 0;"), [0, 2, 1, 1])
        self.assert_fault("take 0001000000001 from 7 at 0;", 3, 5)
        self.assert_fault("take 21 from 7 at 00001000000001;", 3, 18)

    def test_the_first_fault_of_kinds_2_and_3(self):
        self.assert_fault("take 1000000001 from from", 3, 5)
        self.assert_fault("take 1000000001", 3, 5)
        self.assert_fault("take take 1000000001", 2, 5)
        self.assert_fault(GOOD + " take 1000000001 at", 3, 26)
        self.assert_fault("take 1000000002 from 1000000001 at 0;", 3, 5)

    def test_misplaced_goes_ahead_where_no_number_can_stand(self):
        self.assert_fault("1000000001", 2, 0)
        self.assert_fault("take 21 1000000001", 2, 8)
        self.assert_fault("take 21 from 7 at 0 1000000001", 2, 20)

    def test_goes_ahead_of_what_is_wrong_with_takings(self):
        self.assert_fault("take 99 from 7 at 0; take 21 from 7 at 1000000001;", 3, 39)


class LongTest(TextTest):
    def test_600_bytes(self):
        line = "take 21 from 7 at 0;\n"
        text = line + " " * (600 - 2 * len(line)) + line
        self.assertEqual(len(text), 600)
        self.assertEqual(self.answer(text), [0, 2, 3, 2])


if __name__ == "__main__":
    unittest.main()
