"""The tests of the program. Run them with `bash .ci/run`."""
