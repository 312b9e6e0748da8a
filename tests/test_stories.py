"""truthwell.stories."""

import time
import unittest

from truthwell.errors import BadCase
from truthwell.errors import BadStory
from truthwell.evenings import Evening
from truthwell.stories import read_story
from truthwell.stories import replay
from truthwell.stories import story_text

from helpers import BIG
from helpers import Checks
from helpers import Draws
from helpers import ODD
from plain_logs import PlainEvening
from test_evenings import made_deed
from test_evenings import made_evening
from test_evenings import shown
from test_late import ONCE
from test_late import cases

WRONG = [("ask",), ("ask", 0, 0), ("ask", -1), ("ask", True), ("hear", 0), ("hear", 0, None), ("unhear", 0, 0), ("forget", "0"), ("undo",), (0,), "ask 0", ("ask 0",), None, ()]


class Texts(Checks, unittest.TestCase):
    def test_text(self):
        deeds = [("ask", 0), ["hear", 12, 1], ("unhear", 0), ["forget", 7]]
        self.assertEqual(story_text(story=deeds), "ask 0 , hear 12 1 , unhear 0 , forget 7")
        self.assertEqual(story_text(tuple(deeds)), "ask 0 , hear 12 1 , unhear 0 , forget 7")
        self.assertEqual([story_text([]), story_text(()), story_text([("ask", 10 ** 61)])], ["-", "-", "ask 1" + "0" * 61])
        self.assertEqual(deeds, [("ask", 0), ["hear", 12, 1], ("unhear", 0), ["forget", 7]])

    def test_read_back(self):
        draws = Draws(541)
        for case in cases():
            evening = made_evening(draws, case, 15)
            self.assertEqual(read_story(story_text(evening.story)), evening.story)
        self.assertEqual(read_story(text="hear 0 0 , forget " + "9" * 60), (("hear", 0, 0), ("forget", 10 ** 60 - 1)))
        self.assertEqual(read_story("-"), ())

    def test_wrong_stories(self):
        for value in ODD + ["-", "ask 0"] + [[wrong] for wrong in WRONG] + [[("ask", 0), wrong] for wrong in WRONG]:
            if value not in ([], ()):
                self.raises(BadStory("story"), story_text, value)
                self.raises(BadStory("story"), replay, ONCE, value)

    def test_faults(self):
        for value in ODD:
            if not isinstance(value, str):
                self.text_fault(value, 0, read_story)
        faults = {"": 0, "- ": 1, "- -": 1, "- ,": 1, "- ask 0": 1, " -": 0, "ask": 1, "ask ": 1, "ask -": 1, "ask -1": 1, "ask 00": 1, "ask 01": 1, "ask +1": 1, "ask 0 ": 2,
                  "ask 0 ,": 3, "ask 0 , ": 3, "ask 0 , -": 3, "ask 0 , ask": 4, "ask 0 0": 2, "ask 0,": 1, "ask 0 , , ask 0": 3, "hear 0": 2, "hear 0 1 1": 3, "hear 0 x": 2, "Ask 0": 0,
                  "unhear 0 , forget": 4, "forget 0 ; ask 0": 2, "undo": 0, "ask  0": 1, "ask 0 , hear 0 1 , unhear": 8, "ask " + "1" * 61: 1, "ask 0\n": 1, "ask \u0663": 1, ",": 0, "ask 0 , redo": 3,
                  "ask 0 - ask 1": 2, "hear": 1, "drop 0": 0}
        for text, word in faults.items():
            self.text_fault(text, word, read_story)

    def test_long_text(self):
        begun = time.time()
        text = " , ".join(["hear 1 2"] * 9000)
        self.assertEqual([len(text) < 100000, len(read_story(text))], [True, 9000])
        self.text_fault(text + " 3", 9000 * 4 - 1, read_story)
        self.assertEqual(story_text(read_story(text)), text)
        self.assertLess(time.time() - begun, 10)


class Replay(Checks, unittest.TestCase):
    def test_in_turn(self):
        draws = Draws(542)
        for case in cases():
            evening = made_evening(draws, case, 15)
            for story in (evening.story, [list(deed) for deed in evening.story]):
                found = replay(case, story)
                self.assertEqual([found == evening, shown(found)], [True, shown(evening)])
        self.assertEqual(replay(case=ONCE, story=[]), Evening(ONCE))

    def test_refused(self):
        draws = Draws(543)
        many = 0
        for case in cases():
            for _ in range(5):
                plain, deeds, refused = PlainEvening(case), [], None
                while refused is None and len(deeds) < 12:
                    deed = made_deed(draws, case, plain.many)
                    if plain.refused(deed):
                        refused = len(deeds)
                    deeds.append(deed)
                deeds += [("ask", 0), ("hear", 99, 99)] * draws.below(2)
                if refused is not None:
                    many += 1
                    self.raises(BadStory(refused), replay, case, deeds)
        self.assertGreater(many, 100)
        for story, place in (([("ask", 2)], 0), ([("ask", 0), ("hear", 0, 2)], 1), ([("hear", 0, 0), ("ask", 9)], 0), ([("ask", BIG)], 0), ([("ask", 0), ("unhear", 0)], 1),
                             ([("ask", 1), ("hear", 0, 1), ("ask", 1), ("hear", 1, 1)], 3)):
            self.raises(BadStory(place), replay, ONCE, story)

    def test_errors(self):
        self.odd(lambda value: replay(value, None), lambda value: BadCase("case"))


if __name__ == "__main__":
    unittest.main()
