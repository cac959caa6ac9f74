"""A Board: a HOUSE, live, tick by tick, a PLAY of it coming up, with all that is done taken back and done again."""

from secondknock.errors import NoSpot, NothingDone, Unfit
from secondknock.forms import ticks_by_spot
from secondknock.houses import is_deed, is_feeler
from secondknock.plays import end_stand
from secondknock.ticks import knocked_zones, ringing, sounding_outs
from secondknock.values import frozen

# A COURSE is what a Board holds at a time: a triple (speech, deeds, many), as of a PLAY.


def stretches_of_spot(course, spot):
    """The stretches of a SPOT in a COURSE, maybe ()."""
    return ticks_by_spot(course[0]).get(spot, ())


def with_stretches(course, spot, stretches):
    """The COURSE with these stretches, maybe (), of a SPOT."""
    speech = ticks_by_spot(course[0])
    speech[spot] = stretches
    return (tuple([(own, speech[own]) for own in sorted(speech) if speech[own]]),) + course[1:]


def is_to_speak(course, spot):
    """Whether a SPOT is to speak at the coming tick."""
    stretches = stretches_of_spot(course, spot)
    return stretches != () and stretches[-1][1] is None


def spoken_to(course, spot):
    """The COURSE with a SPOT that is to speak from the coming tick on."""
    stretches, many = stretches_of_spot(course, spot), course[2]
    if stretches and stretches[-1][1] == many:
        return with_stretches(course, spot, stretches[:-1] + ((stretches[-1][0], None),))
    return with_stretches(course, spot, stretches + ((many, None),))


def hushed(course, spot):
    """The COURSE with a SPOT that is to speak no more from the coming tick on."""
    stretches, many = stretches_of_spot(course, spot), course[2]
    begin = stretches[-1][0]
    return with_stretches(course, spot, stretches[:-1] + (((begin, many),) if begin < many else ()))


def checked_feeler(house, spot):
    """The SPOT in tuples; raises NoSpot if it is no feeler."""
    spot = frozen(spot)
    if not is_feeler(house[0], spot):
        raise NoSpot(spot)
    return spot


class Board:
    """A HOUSE, live: what is told is done tick by tick."""

    def __init__(self, house):
        self.house = frozen(house)
        self.course = ((), (), 0)
        # Pairs of a deed's name and a COURSE: the one ahead of it, the one behind it.
        self.done = []
        self.taken_back = []

    def __eq__(self, other):
        """Whether the other thing is a Board with an equal PLAY."""
        if not isinstance(other, Board):
            return False
        return self.play() == other.play()

    def keep(self, name, course):
        """Goes on to a COURSE by a deed of this name."""
        self.done.append((name, self.course))
        self.taken_back = []
        self.course = course

    def speak(self, spot):
        """From the coming tick on this feeler speaks."""
        spot = checked_feeler(self.house, spot)
        if is_to_speak(self.course, spot):
            raise Unfit()
        self.keep("speak", spoken_to(self.course, spot))

    def hush(self, spot):
        """From the coming tick on this feeler speaks no more."""
        spot = checked_feeler(self.house, spot)
        if not is_to_speak(self.course, spot):
            raise Unfit()
        self.keep("hush", hushed(self.course, spot))

    def tell(self, deed):
        """Tells a DEED more for the coming tick, behind those told for it."""
        deed = frozen(deed)
        if not is_deed(self.house, deed):
            raise Unfit()
        speech, deeds, many = self.course
        self.keep("tell", (speech, deeds + ((many, deed),), many))

    def pass_by(self, many):
        """So many ticks go by."""
        speech, deeds, gone = self.course
        self.keep("pass_by", (speech, deeds, gone + many))

    def undo(self):
        """Takes the last deed back and tells its name."""
        if not self.done:
            raise NothingDone()
        name, course = self.done.pop()
        self.taken_back.append((name, self.course))
        self.course = course
        return name

    def redo(self):
        """Does the last deed that is taken back again and tells its name."""
        if not self.taken_back:
            raise NothingDone()
        name, course = self.taken_back.pop()
        self.done.append((name, self.course))
        self.course = course
        return name

    def now(self):
        """How many ticks have gone by."""
        return self.course[2]

    def play(self):
        """The PLAY of these ticks, with all that was told."""
        return (self.house,) + self.course

    def stand(self):
        """The STAND behind the ticks that have gone by."""
        return end_stand(self.play())

    def sounding(self):
        """The set of the OUTS that sound at the last of these ticks."""
        return sounding_outs(self.house, self.stand())

    def ringing(self):
        """The set of the SPOTS of bells that ring at the last of these ticks."""
        return ringing(self.house, self.stand())

    def knocked(self):
        """The set of the ZONES that are knocked."""
        return knocked_zones(self.house, self.stand()[4])

    def ahead(self, many):
        """The tuple of the ticks since which each OUT would be on if so many more went by, or None."""
        speech, deeds, gone = self.course
        return end_stand((self.house, speech, deeds, gone + many))[7]

    def feels(self, spot):
        """Whether this feeler is to speak at the coming tick."""
        return is_to_speak(self.course, checked_feeler(self.house, spot))

    def twin(self):
        """Another Board that holds the same, with all that can be taken back and done again."""
        other = Board(self.house)
        other.course = self.course
        other.done = list(self.done)
        other.taken_back = list(self.taken_back)
        return other
