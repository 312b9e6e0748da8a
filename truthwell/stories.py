"""Stories of evenings, as texts, and done anew."""

from truthwell.case_wants import want_case
from truthwell.deeds import are_deeds
from truthwell.deeds import deed_text
from truthwell.deeds import read_deeds
from truthwell.errors import BadStory
from truthwell.errors import WellError
from truthwell.evenings import Evening
from truthwell.words import Words


def story_text(story):
    """The text of a list of deeds."""
    if not are_deeds(story):
        raise BadStory("story")
    return " , ".join([deed_text(list(deed)) for deed in story]) if len(story) > 0 else "-"


def read_story(text):
    """The deeds whose text this is."""
    return read_deeds(Words(text))[0]


def replay(case, story):
    """The evening with these deeds; BadStory with the index of the first one that is refused."""
    want_case(case, "case")
    if not are_deeds(story):
        raise BadStory("story")
    evening = Evening(case)
    deeds = [tuple(deed) for deed in story]
    for place, deed in enumerate(deeds):
        try:
            evening.tell(deed)
        except WellError:
            raise BadStory(place)
    return evening
