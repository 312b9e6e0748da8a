"""The clouds that come about."""

from truthwell.errors import TooMany
from truthwell.moves import Mover
from truthwell.moves import is_done

MOST_CLOUDS = 1000


class Sky:
    """The clouds that come about for some rounds, numbered as they are met.

    Situations are numbered, too; a cloud is the ascending tuple of the numbers of its situations. turns
    has for each cloud, for each question, the number of the cloud into which it is turned.
    """

    def __init__(self, case, rounds):
        self.case = case
        self.mover = Mover(case)
        self.situations = []
        self.settled = []
        self.numbers = {}
        self.steps = {}
        self.clouds = []
        self.places = {}
        self.turns = []
        self.meet((self.number_of(case.firsts),))
        while len(self.turns) < len(self.clouds):
            cloud = self.clouds[len(self.turns)]
            self.turn(cloud)
            if rounds > 1:
                self.meet_alone(cloud)

    def turn(self, cloud):
        """Meets what each question turns a cloud into."""
        questions = range(len(self.case.stock.questions))
        self.turns.append([self.meet(self.turned(cloud, question)) for question in questions])

    def turned(self, cloud, question):
        """What a question turns a cloud into."""
        return tuple(sorted({behind for number in cloud for behind in self.behind(number, question)}))

    def meet_alone(self, cloud):
        """Meets the clouds of one situation of this one alone that is not settled."""
        for number in cloud:
            if not self.settled[number]:
                self.meet((number,))

    def meet(self, cloud):
        """The number of a cloud, which is met now if it was not before."""
        if cloud not in self.places:
            if len(self.clouds) == MOST_CLOUDS:
                raise TooMany("clouds", MOST_CLOUDS)
            self.places[cloud] = len(self.clouds)
            self.clouds.append(cloud)
        return self.places[cloud]

    def behind(self, number, question):
        """The numbers of the situations behind the answers to a question that can come."""
        key = (number, question)
        if key not in self.steps:
            answers = self.mover.answers(self.situations[number], question)
            self.steps[key] = [self.number_of(behind) for told, behind in answers]
        return self.steps[key]

    def number_of(self, situation):
        """The number of a situation."""
        if situation not in self.numbers:
            self.numbers[situation] = len(self.situations)
            self.situations.append(situation)
            self.settled.append(is_done(self.case, situation))
        return self.numbers[situation]

    def unfolded(self):
        """The clouds by their situations, ascending."""
        return sorted([tuple(sorted([self.situations[number] for number in cloud])) for cloud in self.clouds])
