"""Evenings: questions are asked, and answers may come late."""

from truthwell.case_wants import want_case
from truthwell.case_wants import want_question
from truthwell.deeds import is_deed
from truthwell.errors import BadStory
from truthwell.errors import NoDeed
from truthwell.evening_states import begun_state
from truthwell.evening_states import place_in
from truthwell.evening_states import state_asked
from truthwell.evening_states import state_forgotten
from truthwell.evening_states import state_heard
from truthwell.evening_states import state_unheard
from truthwell.log_walks import things_left
from truthwell.rules import want_heap
from truthwell.wishes import is_met_by


class Evening:
    """What is asked and heard of a case in an evening; it changes by its own methods alone."""

    def __init__(self, case):
        want_case(case, "case")
        self.case = case
        self.story = ()
        self.undone = ()
        self.show(begun_state(case))

    def show(self, state):
        """Makes this the state of the evening; the story is told by whoever calls this."""
        rows = state.rows
        left = state.levels[-1]
        things = things_left(left)
        self.state = state
        self.asked = tuple([(asking, number) for asking, number, told in rows])
        self.heard = tuple([(asking, told) for asking, number, told in rows if told is not None])
        self.unheard = tuple([asking for asking, number, told in rows if told is None])
        self.log = (tuple([number for asking, number, told in rows]), tuple([told for asking, number, told in rows]))
        self.stands = left
        self.open_things = things
        self.is_settled = is_met_by(self.case.wish, things)
        self.sure = sure_of(self.case.wish, things) if self.is_settled else None

    def done(self, state):
        """Makes this the state behind a new deed."""
        self.story = self.story + (state.deed,)
        self.undone = ()
        self.show(state)

    def ask(self, number):
        """Asks a question; returns the asking."""
        want_question(self.case, number)
        self.done(state_asked(self.case, self.state, number))
        return self.state.many - 1

    def hear(self, asking, told):
        """Hears the answer to an asking."""
        place_in(self.state, asking)
        want_heap(self.case, told)
        self.done(state_heard(self.case, self.state, asking, told))

    def unhear(self, asking):
        """Makes an asking one that is not heard."""
        self.done(state_unheard(self.case, self.state, asking))

    def forget(self, asking):
        """Makes an asking one that never was."""
        self.done(state_forgotten(self.case, self.state, asking))

    def tell(self, deed):
        """Does a deed; returns the asking of an ask."""
        if not is_deed(deed):
            raise BadStory("deed")
        if deed[0] == "ask":
            return self.ask(deed[1])
        if deed[0] == "hear":
            self.hear(deed[1], deed[2])
        elif deed[0] == "unhear":
            self.unhear(deed[1])
        else:
            self.forget(deed[1])
        return None

    def undo(self):
        """Takes back the latest deed."""
        if len(self.story) == 0:
            raise NoDeed()
        self.undone = self.undone + (self.state,)
        self.story = self.story[:-1]
        self.show(self.state.ahead)

    def redo(self):
        """Does anew the deed that was taken back last, if none was done since."""
        if len(self.undone) == 0:
            raise NoDeed()
        state = self.undone[-1]
        self.undone = self.undone[:-1]
        self.story = self.story + (state.deed,)
        self.show(state)

    def twin(self):
        """An evening that is in all as this one."""
        other = Evening(self.case)
        other.story = self.story
        other.undone = self.undone
        other.show(self.state)
        return other

    def tried(self, work):
        """What a function returns for this evening, which is then as it was ahead of it."""
        state, story, undone = self.state, self.story, self.undone
        asked, heard, unheard, log = self.asked, self.heard, self.unheard, self.log
        stands, things, settled, sure = self.stands, self.open_things, self.is_settled, self.sure
        try:
            return work(self)
        finally:
            self.state, self.story, self.undone = state, story, undone
            self.asked, self.heard, self.unheard, self.log = asked, heard, unheard, log
            self.stands, self.open_things, self.is_settled, self.sure = stands, things, settled, sure

    def __len__(self):
        return len(self.story)

    def __iter__(self):
        return iter(self.story)

    def __eq__(self, other):
        return isinstance(other, Evening) and self.case == other.case and self.story == other.story


def sure_of(wish, things):
    """What is known of these things, by which the wish is met."""
    return things if wish.classes is None else wish.classes[things[0]]
