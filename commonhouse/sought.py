"""What a way leads to a thing, or what shows that nothing is [30]."""

from commonhouse.falls import reached
from commonhouse.houses import left_by
from commonhouse.parts import numbers_for
from commonhouse.shut import shut
from commonhouse.voices import says


def sought(way, a):
    """("yes", a thing of one that is led to a), or ("no", a voice of other that says 0 to all that is
    reached and not 0 to a).
    """
    one, other, images = way
    # The turn of an image divides its round, so numbers below the turns are a thing of one.
    found = numbers_for(other, images, a)
    if found is not None:
        return ("yes", found)
    # The shut part of the shut part is what is reached, so not all voices that make it say 0 to a.
    voices = [left_by(other, row) for row in shut(other, reached(way))]
    return ("no", [c for c in voices if says(other, c, a) != 0][0])
