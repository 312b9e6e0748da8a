"""Shadows: for each group the standings behind the hearings that it shares."""

from truthwell.checks import is_within
from truthwell.errors import TooMany
from truthwell.lists import is_list
from truthwell.moves import OUT
from truthwell.moves import Mover

MOST_STANDINGS = 4096
MOST_SHADOWS = 4096


def are_shadows(case, values):
    """Whether each of some values is a list with, for each group of the case, a list of its standings."""
    groups = case.wish.groups(case.things)
    return all([is_shadow(groups, len(case.rule.rows), value) for value in values])


def is_shadow(groups, stands, value):
    """Whether a value is a list with, for each of these groups, a list of its standings."""
    if not is_list(value) or len(value) != len(groups):
        return False
    return all([are_standings(stands, group, standings) for group, standings in zip(groups, value)])


def are_standings(stands, group, value):
    """Whether a value is a list of standings of a group, ascending, each once."""
    if not is_list(value) or not all([is_standing(stands, group, item) for item in value]):
        return False
    standings = [tuple(item) for item in value]
    return all([one < two for one, two in zip(standings, standings[1:])])


def is_standing(stands, group, value):
    """Whether a value is a list of a stand for each thing of a group."""
    if not is_list(value) or len(value) != len(group):
        return False
    return all([is_within(stand, 0, stands - 1) for stand in value])


class ShadowSets:
    """The standings of the groups of a case that were met, and the sets of them, both numbered: a shadow
    is a tuple of numbers of sets, one for each group. So what is behind a question is found once for
    each set, and for each standing.
    """

    def __init__(self, case):
        self.mover = Mover(case)
        self.heaps = case.heaps
        self.all_groups = case.wish.groups(case.things)
        self.firsts = case.firsts
        self.standings = []
        self.places = {}
        self.sets = []
        self.numbers = {}
        self.followers = {}
        self.set_followers = {}

    def first(self):
        """The first shadow."""
        return self.taken([[tuple([self.firsts[thing] for thing in group])] for group in self.all_groups])

    def taken(self, shadow):
        """The shadow that is told by its standings."""
        return tuple([self.number_of([self.place_of(at, standing) for standing in standings])
                      for at, standings in enumerate(shadow)])

    def unfolded(self, shadow):
        """The standings of a shadow, group by group, ascending."""
        return tuple([tuple(sorted(self.standings_of(number))) for number in shadow])

    def standings_of(self, number):
        """The standings of a set."""
        return [self.standings[place][1] for place in self.sets[number]]

    def place_of(self, at, standing):
        """The number of a standing of a group."""
        key = (at, standing)
        if key not in self.places:
            self.places[key] = len(self.standings)
            self.standings.append(key)
        return self.places[key]

    def number_of(self, places):
        """The number of a set of standings of one group, which are told by their numbers."""
        key = tuple(sorted(places))
        if key not in self.numbers:
            self.numbers[key] = len(self.sets)
            self.sets.append(key)
        return self.numbers[key]

    def behind(self, shadow, question):
        """The shadow behind a question."""
        return tuple([self.set_behind(number, question) for number in shadow])

    def set_behind(self, number, question):
        """The number of the set of standings behind a question."""
        key = (number, question)
        if key not in self.set_followers:
            places = self.sets[number]
            known = self.followers.setdefault(question, {})
            fresh = [place for place in places if place not in known]
            for place in fresh:
                known[place] = self.behind_standing(place, question)
            found = {other: True for place in places for other in known[place]}
            self.set_followers[key] = self.number_of(list(found))
        return self.set_followers[key]

    def behind_standing(self, place, question):
        """The numbers of the standings behind one and a question."""
        at, standing = self.standings[place]
        found = [self.standing_behind(at, standing, question, told) for told in range(self.heaps)]
        return [self.place_of(at, behind) for behind in found if behind is not None]

    def standing_behind(self, at, standing, question, told):
        """The standing of a group behind an answer; None if this is barred for one of its things."""
        rows = self.mover.rows
        places = self.mover.places[question][told]
        behind = tuple([rows[stand][places[thing]] for stand, thing in zip(standing, self.all_groups[at])])
        return None if OUT in behind else behind

    def size(self, shadow):
        """How many standings a shadow has, of all groups together."""
        return sum([len(self.sets[number]) for number in shadow])

    def want_few(self, shadow):
        """Raises TooMany for a shadow of too many standings."""
        if self.size(shadow) > MOST_STANDINGS:
            raise TooMany("standings", MOST_STANDINGS)

    def places_of(self, shadow):
        """The numbers of the standings of a shadow, of all groups together."""
        return [place for number in shadow for place in self.sets[number]]


class InnerShadows:
    """Shadows that are not bare, by which is found whether one of them lies within another one.

    Each is kept at its greatest place: it is looked at only where the other one has this, too.
    """

    def __init__(self):
        self.kept = {}

    def keep(self, places):
        """Keeps a shadow, told by the numbers of its standings."""
        self.kept.setdefault(max(places), []).append(places)

    def lies_within(self, places):
        """Whether one of those that are kept lies within this one."""
        table = {place: True for place in places}
        for place in places:
            for inner in self.kept.get(place, []):
                if are_all_in(inner, table):
                    return True
        return False


def are_all_in(places, table):
    """Whether a table has all of these places."""
    for place in places:
        if place not in table:
            return False
    return True


def least_shadows(sets, shadows):
    """Of unlike shadows, none of which is bare, those within which no other one of them lies, ascending as
    they are shown."""
    inner = InnerShadows()
    least = []
    # What lies within another one has fewer standings: so it was met, and kept, or what lies within it was.
    for size, shadow in sorted([(sets.size(shadow), shadow) for shadow in shadows]):
        places = sets.places_of(shadow)
        if not inner.lies_within(places):
            inner.keep(places)
            least.append((sets.unfolded(shadow), shadow))
    return [shadow for told, shadow in sorted(least)]


def shadows_along(sets, numbers):
    """The first shadow, and those behind the questions of a list, one behind another."""
    found = [sets.first()]
    sets.want_few(found[0])
    for number in numbers:
        found.append(sets.behind(found[-1], number))
        sets.want_few(found[-1])
    return found


def shadows_met(sets, questions, most):
    """The shadows as they are met by so many questions, None: any; and the list by which the first bare
    one is met, None if none is. Behind that one no more are met."""
    first = sets.first()
    sets.want_few(first)
    roads = {first: ()}
    met = [first]
    at = 0
    while sets.size(met[-1]) > 0 and at < len(met):
        if most is None or len(roads[met[at]]) < most:
            meet_behind(sets, questions, met[at], met, roads)
        at += 1
    return met, roads[met[-1]] if sets.size(met[-1]) == 0 else None


def meet_behind(sets, questions, ahead, met, roads):
    """Meets the shadows behind all questions, as far as the first bare one."""
    for question in range(questions):
        behind = sets.behind(ahead, question)
        sets.want_few(behind)
        if behind not in roads:
            if len(met) == MOST_SHADOWS:
                raise TooMany("shadows", MOST_SHADOWS)
            roads[behind] = roads[ahead] + (question,)
            met.append(behind)
            if sets.size(behind) == 0:
                return
