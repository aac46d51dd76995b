"""The desk at which notes arrive one by one."""
