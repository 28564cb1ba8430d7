"""The tests of leafway."""
