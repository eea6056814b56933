"""A desk that keeps guessers by names and answers rows."""

from wayguess.against import ahead_by
from wayguess.alike import parting_run
from wayguess.errors import NoName, NoRow
from wayguess.guessers import first_state, guess
from wayguess.notes import number_in, read_guesser, read_pattern, show_pattern
from wayguess.patterns import misses_of, passed_pattern
from wayguess.rounds import for_ever
from wayguess.runs import LAST_PLACE

LETTERS = "abcdefghijklmnopqrstuvwxyz"
MOST_LETTERS = 8


def name_in(word):
    """The name that a word is; NoRow where it is none."""
    if not 1 <= len(word) <= MOST_LETTERS or not all(sign in LETTERS for sign in word):
        raise NoRow("no name")
    return word


def place_in(word):
    """The place that a word is; NoRow where it is none."""
    place = number_in(word)
    if not 0 <= place <= LAST_PLACE or str(place) != word:
        raise NoRow("no place")
    return place


def name_and_text(rest):
    """The name, and all that is left behind the blank behind it."""
    word, blank, text = rest.partition(" ")
    if blank == "":
        raise NoRow("nothing behind the name")
    return name_in(word), text


def names_and_places(rest):
    """Two names, and the places behind them."""
    words = rest.split(" ")
    if len(words) < 3:
        raise NoRow("two names and a place are asked for")
    places = [place_in(word) for word in words[2:]]
    if not all(place < other for place, other in zip(places, places[1:])):
        raise NoRow("places that don't rise")
    return name_in(words[0]), name_in(words[1]), places


def both_texts(text):
    """The two texts that are parted by the first blank outside of brackets."""
    within = 0
    for at, sign in enumerate(text):
        if sign == " " and within == 0:
            return text[:at], text[at + 1:]
        if sign == "(":
            within += 1
        if sign == ")":
            within -= 1
    raise NoRow("one pattern where two are asked for")


def kept_as(kept, name):
    """The (guesser, state) that is kept by a name; NoName where there is none."""
    if name not in kept:
        raise NoName("no guesser of this name")
    return kept[name]


# Each of these reads the whole row first (NoRow), then looks for names
# (NoName), then reads texts (NoGuesser, NoPattern); what is kept is changed last.
def answer_guesser(kept, rest):
    """Keep a guesser in its first state."""
    name, text = name_and_text(rest)
    guesser = read_guesser(text)
    kept[name] = (guesser, first_state(guesser))
    return "ok"


def answer_learn(kept, rest):
    """The misses of a pattern from the state on, which goes on."""
    name, text = name_and_text(rest)
    guesser, state = kept_as(kept, name)
    misses, behind = passed_pattern(guesser, state, read_pattern(text))
    kept[name] = (guesser, behind)
    return str(misses)


def answer_misses(kept, rest):
    """The misses of a pattern from the first state on."""
    name, text = name_and_text(rest)
    guesser, state = kept_as(kept, name)
    return str(misses_of(guesser, read_pattern(text)))


def answer_guess(kept, rest):
    """The guess at a place."""
    name, text = name_and_text(rest)
    place = place_in(text)
    guesser, state = kept_as(kept, name)
    return str(guess(guesser, state, place))


def answer_round(kept, rest):
    """The four numbers of a round behind a pattern ahead."""
    name, text = name_and_text(rest)
    ahead, around = both_texts(text)
    guesser, state = kept_as(kept, name)
    told = for_ever(guesser, read_pattern(ahead), read_pattern(around))
    return " ".join([str(number) for number in told])


def answer_against(kept, rest):
    """By how much the first guesser's misses can be ahead of the second one's."""
    name, other, places = names_and_places(rest)
    told = ahead_by(kept_as(kept, name)[0], kept_as(kept, other)[0], places)
    return f"at most {told[1]}" if told[0] == "at most" else "ever more"


def answer_alike(kept, rest):
    """Whether two guessers guess alike, or what parts them."""
    name, other, places = names_and_places(rest)
    told = parting_run(kept_as(kept, name)[0], kept_as(kept, other)[0], places)
    if told is None:
        return "yes"
    run, parting = told
    words = [show_pattern(("way", place, way)) for place, way in run]
    return " ".join(words + ["at", str(parting)])


def answer_first(kept, rest):
    """Put a guesser back to its first state."""
    name = name_in(rest)
    guesser, state = kept_as(kept, name)
    kept[name] = (guesser, first_state(guesser))
    return "ok"


ANSWERS = {
    "guesser": answer_guesser,
    "learn": answer_learn,
    "misses": answer_misses,
    "guess": answer_guess,
    "round": answer_round,
    "against": answer_against,
    "alike": answer_alike,
    "first": answer_first,
}


class Desk:
    """Keeps guessers by names, each with its state, and answers rows."""

    def __init__(self):
        self.kept = {}

    def say(self, row):
        """The answer to a row; NoRow, NoName, NoGuesser or NoPattern where it is refused."""
        if not isinstance(row, str):
            raise NoRow("no text")
        word, blank, rest = row.partition(" ")
        if word not in ANSWERS:
            raise NoRow("no such row")
        answer = ANSWERS[word]
        return answer(self.kept, rest)
