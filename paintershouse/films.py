"""Films: pictures one after another, for some time each."""

from paintershouse.errors import Missing, NotAllowed, TooLarge
from paintershouse.pictures import check_picture, size_of

MAX_FRAMES = 40
MAX_TIME = 9999


def check_film(film):
    """Raises NotAllowed if a tuple of pairs of a tuple and an integer is not a film."""
    if not 1 <= len(film) <= MAX_FRAMES:
        raise NotAllowed("not a number of frames")
    for picture, time in film:
        check_picture(picture)
        if size_of(picture) != size_of(film[0][0]):
            raise NotAllowed("pictures with other sides")
        if not 1 <= time <= MAX_TIME:
            raise NotAllowed("not a time")


def check_films(films):
    """Raises NotAllowed if a list has something else than films, or they have other sides."""
    for film in films:
        check_film(film)
        if size_of(film[0][0]) != size_of(films[0][0][0]):
            raise NotAllowed("films with other sides")


def _long(frames):
    return sum([time for _, time in frames])


def length_of(film):
    """Returns the length of a film."""
    check_film(film)
    return _long(film)


def _check_moment(moment):
    if moment < 0:
        raise NotAllowed("not a time from 0 on")


def seen_at(film, time):
    """Returns what is seen at a time, or None if nothing is."""
    check_film(film)
    _check_moment(time)
    for picture, lasting in film:
        if time < lasting:
            return picture
        time = time - lasting
    return None


def looped_at(film, time):
    """Returns what a film, looped, shows at a time."""
    check_film(film)
    _check_moment(time)
    return seen_at(film, time % _long(film))


def _joined(frames):
    """Returns the list of frames in which none is like the one ahead of it, however long they are."""
    made = []
    for picture, time in frames:
        if made and made[-1][0] == picture:
            made[-1] = (picture, made[-1][1] + time)
        else:
            made.append((picture, time))
    return made


def _check_times(frames):
    """Raises TooLarge if a frame lasts too long."""
    if max([time for _, time in frames]) > MAX_TIME:
        raise TooLarge("too long a time")


def joined(film):
    """Returns the joined film."""
    check_film(film)
    frames = _joined(film)
    _check_times(frames)
    return tuple(frames)


def look_alike(first, second):
    """Returns True if two films show the same at each time, otherwise False."""
    check_films([first, second])
    return _joined(first) == _joined(second)


def _cut(frames, start, end):
    """Returns the list of frames that are seen from a start to an end."""
    made, ahead = [], 0
    for picture, time in frames:
        first, last = max(start, ahead), min(end, ahead + time)
        if first < last:
            made.append((picture, last - first))
        ahead += time
    return made


def cut_film(film, start, end):
    """Returns a film, cut from a start to an end."""
    check_film(film)
    if not 0 <= start < end <= _long(film):
        raise NotAllowed("not a start and an end")
    return tuple(_cut(film, start, end))


def strung(films):
    """Returns films strung together."""
    check_films(films)
    if not films:
        raise NotAllowed("no films")
    frames = [frame for film in films for frame in film]
    if len(frames) > MAX_FRAMES:
        raise TooLarge("too many frames")
    return tuple(frames)


def _rolled(frames, start):
    """Returns the list of joined frames that a loop shows from a start within it on, up to there again."""
    return _joined(_cut(frames, start, _long(frames)) + _cut(frames, 0, start))


def _root(frames):
    """Returns the list of the joined frames of the root, however long they are."""
    whole = _joined(frames)
    long = _long(whole)
    # The length of the root divides that of the film.
    for time in range(1, long):
        if long % time == 0 and _rolled(whole, time) == whole:
            return _cut(whole, 0, time)
    return whole


def root_of(film):
    """Returns the root of a film."""
    check_film(film)
    frames = _root(film)
    _check_times(frames)
    return tuple(frames)


def shift_of(first, second):
    """Returns the shift from a film to another one."""
    check_films([first, second])
    root, other = _root(first), _root(second)
    long = _long(root)
    shifts = []
    if long == _long(other):
        # At the end of the other one's first frame, a frame of the first one ends, too.
        shifts = [shift for shift in _shifts(root, other[0][1]) if _rolled(root, shift) == other]
    if not shifts:
        raise Missing("films that do not show the same")
    return min(shifts)


def _shifts(frames, time):
    """Returns the list of the shifts with which some frame ends at a time in a loop."""
    long = _long(frames)
    shifts, end = [], 0
    for _, lasting in frames:
        end += lasting
        shifts.append((end - time) % long)
    return shifts
